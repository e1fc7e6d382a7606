"""Plays of programs."""

from anytwo.playing import Playing
from anytwo.programs import made_program
from anytwo.watching import done


def play(program, choices):
    """The play: (events, steps, place where it stopped, what the names hold, the things of the piles)."""
    playing = Playing(made_program(program), choices)
    things = done(playing)
    return (tuple(things.events), things.steps, playing.place, things.held(), things.lying())
