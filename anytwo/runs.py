"""Plays in words."""

from anytwo.playing import Playing
from anytwo.programs import made_program
from anytwo.tablechecks import made_table
from anytwo.watching import watched


def told_run(program, table_, choices):
    """A row for each event of the play, up to the one at which a pair first breaks the table."""
    made_program(program)
    made_table(table_)
    events, found = watched(Playing(program, choices), table_)
    marks = {}
    if found is not None:
        _, elder, younger = found
        marks = {elder: " elder", younger: " younger"}
    return "\n".join([row_of(event, marks) for event in events])


def row_of(event, marks):
    """The row of one event, with the mark of its thing if that has one."""
    step, deed, thing = event
    mark = marks.get(thing, "")
    return f"{step}: {deed} {thing}{mark}"
