"""Plays that are watched for the first pair that breaks a table."""

from anytwo.pairs import Pairs
from anytwo.playing import Playing


def watched(program, table_, choices):
    """The events of a play up to the first break, and that break (step, i, j), which is None if there is none."""
    playing = Playing(program, choices)
    pairs = Pairs(table_)
    events = playing.things.events
    goes_on = True
    while goes_on:
        goes_on = playing.go_on()
        found = pairs.first_break(events)
        if found is not None:
            return (tuple(events[:pairs.seen]), found)
    return (tuple(events), None)
