"""Where the statements of a program stand, and where a play goes on from them."""

from anytwo.statements import bodies_at


def end_of(program):
    """The place at which a play comes to the end."""
    return (len(program),)


def first_of(body, before, behind):
    """The place to which a play goes that is led into a body; an empty one leads behind it."""
    if body:
        return before + (0,)
    return behind


def first_place(program):
    """The place at which a play begins."""
    return first_of(program, (), end_of(program))


def laid_out(program):
    """A dict in text order: from each statement's place to the statement and the place behind it."""
    laid = {}
    lay_body(laid, program, (), end_of(program))
    return laid


def lay_body(laid, body, before, behind):
    """Lay out a body; a play that has done it goes on at the place behind."""
    for index, statement in enumerate(body):
        place = before + (index,)
        after = behind
        if index + 1 < len(body):
            after = before + (index + 1,)
        laid[place] = (statement, after)
        back = after
        if statement[0] == "loop":
            back = place
        for inner, start in bodies_at(place, statement):
            lay_body(laid, inner, start, back)


def ways(place, statement, behind):
    """The two places to which the choices 0 and 1 lead from a loop or an either."""
    if statement[0] == "loop":
        return (behind, first_of(statement[1], place, place))
    return (first_of(statement[1], place + (0,), behind), first_of(statement[2], place + (1,), behind))
