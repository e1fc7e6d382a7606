"""Programs written as texts."""

from anytwo.programs import made_program


def told_text(program):
    """The text of a program."""
    return "\n".join(rows_of(made_program(program)))


def rows_of(body):
    """The rows of a body."""
    rows = []
    for statement in body:
        rows.extend(rows_for(statement))
    return rows


def rows_for(statement):
    """The rows of a statement."""
    if statement[0] == "loop":
        return ["loop {", *rows_of(statement[1]), "}"]
    if statement[0] == "either":
        return ["either {", *rows_of(statement[1]), "} or {", *rows_of(statement[2]), "}"]
    if statement[0] == "do":
        return [" ".join(statement[1:])]
    return [" ".join(statement)]
