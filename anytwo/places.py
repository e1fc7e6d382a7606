"""The places of statements, and the order in which plays go through them."""

from anytwo.errors import BadPlace
from anytwo.layouts import end_of, laid_out
from anytwo.programs import made_program
from anytwo.statements import BRANCHES
from anytwo.values import is_row_of_numbers


def places(program):
    """The places of all statements in text order, and then the end."""
    laid = laid_out(made_program(program))
    return (*list(laid), end_of(program))


def next_place(program, place):
    """The place at which a play goes on behind the statement at place, which is no loop and no either."""
    laid = laid_out(made_program(program))
    # A tuple with True in it would be found as one with 1.
    if not is_row_of_numbers(place) or place not in laid:
        raise BadPlace(place)
    statement, behind = laid[place]
    if statement[0] in BRANCHES:
        raise BadPlace(place)
    return behind
