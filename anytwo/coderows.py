"""What code is."""

from anytwo.errors import BadCode
from anytwo.statements import has_form
from anytwo.values import is_number

STOP = ("stop",)
LEADING = ("loop", "either", "jump")


def made_code(thing):
    """Return thing, a tuple that is code; otherwise raise BadCode."""
    many = len(thing)
    for number, row in enumerate(thing):
        if not is_code_row(row, many) or (row == STOP and number + 1 < many):
            raise BadCode(number)
    if many == 0 or thing[-1] != STOP:
        raise BadCode(many)
    return thing


def is_code_row(row, many):
    """Whether row has one of the forms of rows, in code that has so many; a stop may stand anywhere here."""
    if not isinstance(row, tuple) or len(row) == 0:
        return False
    if row[0] in LEADING:
        return len(row) == 2 and is_number(row[1]) and 0 <= row[1] < many
    return row == STOP or has_form(row)
