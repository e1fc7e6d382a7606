"""The plays in which two things go the walker's way."""

from anytwo.layouts import laid_out, ways
from anytwo.statements import BRANCHES
from anytwo.things import Things


def replayed(program, way):
    """The choices and the events of the play that goes this way; all other things are made and never taken."""
    laid = laid_out(program)
    things = Things(None)
    picked = [None, None]
    choices = []
    for state, behind in zip(way, way[1:]):
        statement, after = laid[state[0]]
        if statement[0] in BRANCHES:
            choices.append(ways(state[0], statement, after).index(behind[0]))
        else:
            choice = 0
            if statement[0] == "new":
                note_picked(picked, things.made, state, behind)
            elif statement[0] == "take":
                choice = number_taken(picked, things.piles[statement[1]], statement, state, behind)
                choices.append(choice)
            things.do(statement, choice)
    return (tuple(choices), things.events)


def note_picked(picked, thing, state, behind):
    """Note the thing that is made as the one that is picked on the way, if one is."""
    for which in range(2):
        if state[which + 1] is None and behind[which + 1] is not None:
            picked[which] = thing


def number_taken(picked, lying, statement, state, behind):
    """The number of the thing that a take takes, among those that lie in the pile; 0 if it takes none of the two."""
    for which in range(2):
        if state[which + 1] == statement[1] and behind[which + 1] == statement[2]:
            return lying.index(picked[which]) + 1
    return 0
