"""What a program is."""

from anytwo.errors import BadProgram, Refused, TooMany
from anytwo.statements import bodies_at, has_form

MOST_STATEMENTS = 40
DEEPEST = 6


def made_program(thing):
    """Return thing, which is a program; otherwise raise BadProgram or TooMany."""
    if not isinstance(thing, tuple):
        raise BadProgram(())
    count_body(thing, (), 1, 0)
    return thing


def count_body(body, before, depth, many):
    """Ask a body; return how many statements are counted up to its end, many of them ahead of it."""
    if depth > DEEPEST:
        raise TooMany(DEEPEST + 1)
    for index, thing in enumerate(body):
        many = count_statement(thing, before + (index,), depth, many)
    return many


def count_statement(thing, place, depth, many):
    """Ask a statement and its bodies; return how many are counted up to its end."""
    if many == MOST_STATEMENTS:
        raise TooMany(MOST_STATEMENTS + 1)
    if not has_form(thing):
        raise BadProgram(place)
    many += 1
    for body, before in bodies_at(place, thing):
        many = count_body(body, before, depth + 1, many)
    return many


def is_program(thing):
    """Whether thing is a program."""
    try:
        made_program(thing)
    except Refused:
        return False
    return True
