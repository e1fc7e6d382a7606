"""Programs as code: rows, one behind the other, and jumps between them."""

from anytwo.coderows import STOP
from anytwo.programs import made_program


def compiled(program):
    """The code of a program."""
    return (*rows_of(made_program(program), 0), STOP)


def rows_of(body, first):
    """The rows of a body, the first of which gets this number."""
    rows = []
    for statement in body:
        rows.extend(rows_for(statement, first + len(rows)))
    return rows


def rows_for(statement, first):
    """The rows of a statement, the first of which gets this number."""
    if statement[0] == "loop":
        inner = rows_of(statement[1], first + 1)
        return [("loop", first + len(inner) + 2), *inner, ("jump", first)]
    if statement[0] == "either":
        one = rows_of(statement[1], first + 1)
        second = first + len(one) + 2
        other = rows_of(statement[2], second)
        return [("either", second), *one, ("jump", second + len(other)), *other]
    return [statement]
