"""Programs with other statements in place of some."""

from anytwo.layouts import laid_out
from anytwo.statements import bodies_at
from anytwo.values import is_row_of_numbers


def bodies_of(program):
    """A dict from what the places of a body's statements begin with to this body."""
    bodies = {(): program}
    for place, (statement, _) in laid_out(program).items():
        for body, before in bodies_at(place, statement):
            bodies[before] = body
    return bodies


def many_from(program, place):
    """How many statements of a body stand from the place on, 0 at its end; None if this is no place in a body."""
    if not is_row_of_numbers(place) or len(place) == 0:
        return None
    body = bodies_of(program).get(place[:-1])
    if body is None or not 0 <= place[-1] <= len(body):
        return None
    return len(body) - place[-1]


def taken_out(program, place, many):
    """So many statements of a body, from the place on."""
    return bodies_of(program)[place[:-1]][place[-1]:place[-1] + many]


def exchanged(program, place, many, others):
    """The program with other statements in place of so many of a body, from the place on."""
    before, at = place[:-1], place[-1]
    body = bodies_of(program)[before]
    return with_body(program, (), before, body[:at] + others + body[at + many:])


def with_body(body, before, wanted, other):
    """The body, whose places begin so, with another one in place of the body in it whose places begin as wanted."""
    if before == wanted:
        return other
    return tuple([with_body_in(statement, before + (index,), wanted, other) for index, statement in enumerate(body)])


def with_body_in(statement, place, wanted, other):
    """The statement with another body in place of the one in it whose places begin as wanted, if there is one."""
    bodies = bodies_at(place, statement)
    if not bodies:
        return statement
    return (statement[0], *[with_body(body, before, wanted, other) for body, before in bodies])
