"""What a table is."""

from anytwo.errors import BadTable, Refused, TooMany
from anytwo.letters import LETTERS
from anytwo.values import is_number

MOST_STATES = 200


def made_table(thing):
    """Return thing, which is a table; otherwise raise BadTable or TooMany."""
    if not has_table_shape(thing):
        raise BadTable(0)
    moves, bad = thing
    many = len(moves)
    for state in range(many):
        if not is_row(moves[state], many) or not isinstance(bad[state], bool):
            raise BadTable(state)
    if many > MOST_STATES:
        raise TooMany(many)
    return thing


def has_table_shape(thing):
    """Whether thing is a pair of two tuples of the same length, which are not empty."""
    if not isinstance(thing, tuple) or len(thing) != 2:
        return False
    moves, bad = thing
    if not isinstance(moves, tuple) or not isinstance(bad, tuple):
        return False
    return len(moves) == len(bad) and len(moves) > 0


def is_row(row, many):
    """Whether row is a tuple of seventeen states of a table that has so many."""
    if not isinstance(row, tuple) or len(row) != len(LETTERS):
        return False
    return all([is_number(state) and 0 <= state < many for state in row])


def is_table(thing):
    """Whether thing is a table."""
    try:
        made_table(thing)
    except Refused:
        return False
    return True


def led(moves, state, numbers):
    """The state to which the letters with these numbers lead from a state."""
    for number in numbers:
        state = moves[state][number]
    return state
