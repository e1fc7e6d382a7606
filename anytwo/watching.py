"""Plays, and runs of code: to their end, or up to the first pair that breaks a table."""

from anytwo.pairs import Pairs


def done(playing):
    """The things of a play, or of a run, that has gone on as long as it can."""
    goes_on = True
    while goes_on:
        goes_on = playing.go_on()
    return playing.things


def watched(playing, table_):
    """The events up to the first break, and that break (step, i, j), which is None if there is none."""
    pairs = Pairs(table_)
    events = playing.things.events
    goes_on = True
    while goes_on:
        goes_on = playing.go_on()
        found = pairs.first_break(events)
        if found is not None:
            return (tuple(events[:pairs.seen]), found)
    return (tuple(events), None)
