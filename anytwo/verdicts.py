"""Whether the pairs of a program break a table, and by which choices."""

from anytwo.errors import Kept, Refused
from anytwo.pairs import broken_in_step
from anytwo.playing import Playing
from anytwo.programs import is_program, made_program
from anytwo.replays import replayed
from anytwo.searches import Search
from anytwo.tablechecks import is_table, made_table
from anytwo.values import is_row_of_numbers
from anytwo.watching import watched


def breaks_at(program, table_, choices):
    """The first break of the play, (step, i, j); None if there is none, or if the play is refused ahead of it."""
    if not is_program(program) or not is_table(table_) or not is_row_of_numbers(choices):
        return None
    try:
        return watched(Playing(program, choices), table_)[1]
    except Refused:
        return None


def least_steps(program, table_):
    """The least step at which some play breaks the table; None if no play does."""
    return Search(made_program(program), made_table(table_)).least


def keeps(program, table_):
    """Whether no play breaks the table."""
    return least_steps(program, table_) is None


def breaking(program, table_):
    """Choices, as few as may be, that break the table at the least step, and the pair that does: (choices, i, j)."""
    search = Search(made_program(program), made_table(table_))
    if search.least is None:
        raise Kept(0)
    choices, events = replayed(program, search.way())
    return (choices, *broken_in_step(table_, events, search.least))
