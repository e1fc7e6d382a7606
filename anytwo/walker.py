"""The walker, which goes through a program and watches two things only."""

from anytwo.errors import BadPlace, BadThing
from anytwo.layouts import laid_out
from anytwo.programs import made_program
from anytwo.walking import WHERES, is_place, may_be_beside, steps_at


def steps_of(program, state):
    """What the walker can do at a state: pairs (letters, state behind), in order."""
    laid = laid_out(made_program(program))
    if not isinstance(state, tuple) or len(state) != 3:
        raise BadPlace(state)
    place, elder, younger = state
    if not is_place(program, laid, place):
        raise BadPlace(place)
    if elder not in WHERES:
        raise BadThing(0)
    if not may_be_beside(elder, younger):
        raise BadThing(1)
    return steps_at(laid, state)
