"""The machine, which runs code and watches all pairs of its things."""

from anytwo.coderows import made_code
from anytwo.running import Running
from anytwo.tablechecks import made_table
from anytwo.watching import done, watched


def run(code, choices):
    """The run: (events, steps, what the names hold, the things of the piles)."""
    things = done(Running(made_code(code), choices))
    return (tuple(things.events), things.steps, things.held(), things.lying())


def watch(code, table_, choices):
    """The first break of the run, and all events up to it: (step, i, j, events); None if no pair breaks the table."""
    made_code(code)
    made_table(table_)
    events, found = watched(Running(code, choices), table_)
    if found is None:
        return None
    return (*found, events)
