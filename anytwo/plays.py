"""Plays of programs."""

from anytwo.choosing import Choosing
from anytwo.layouts import end_of, first_place, laid_out, ways
from anytwo.programs import made_program
from anytwo.things import Things


def play(program, choices):
    """The play: (events, steps, place where it stopped, what the names hold, the things of the piles)."""
    made_program(program)
    choosing = Choosing(choices)
    things = Things()
    place = play_on(program, choosing, things)
    return (tuple(things.events), things.steps, place, things.held(), things.lying())


def play_on(program, choosing, things):
    """Play from the first statement on; return the place at which the play stops."""
    laid = laid_out(program)
    end = end_of(program)
    place = first_place(program)
    while place != end:
        statement, behind = laid[place]
        onward = place_after(place, statement, behind, choosing, things)
        if onward is None:
            return place
        place = onward
    choosing.ask_none_left()
    return end


def place_after(place, statement, behind, choosing, things):
    """Do the statement at place; return where the play goes on, None if it wants a choice that is not there."""
    if statement[0] in ("loop", "either"):
        choice = choosing.next_one(1)
        if choice is None:
            return None
        return ways(place, statement, behind)[choice]
    choice = 0
    if statement[0] == "take":
        choice = choosing.next_one(len(things.piles[statement[1]]))
        if choice is None:
            return None
    things.do(statement, choice)
    return behind
