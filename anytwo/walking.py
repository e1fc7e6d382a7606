"""What the walker can do at its states: triples of a place, where the elder thing is and where the younger one is."""

from anytwo.layouts import end_of, first_place, ways
from anytwo.letters import numbers_of
from anytwo.statements import BRANCHES, NAMES
from anytwo.values import is_row_of_numbers

# Where one of the two things may be, in their order. None: it is not picked yet; "x": it has ended.
WHERES = (None, "a", "b", "c", "d", "p", "q", "x")
SIGNS = ("e.", "y.")


def first_state(program):
    """The state in which the walker begins."""
    return (first_place(program), None, None)


def state_order(state):
    """What states are ordered by; places come in text order as tuples do."""
    return (state[0], WHERES.index(state[1]), WHERES.index(state[2]))


def is_place(program, laid, thing):
    """Whether thing is a place of the program, which is laid out so."""
    # A tuple with True in it would be found as one with 1.
    return is_row_of_numbers(thing) and (thing in laid or thing == end_of(program))


def may_be_beside(elder, younger):
    """Whether younger tells where the younger thing may be, with the elder one there."""
    if younger not in WHERES:
        return False
    if younger is None:
        return True
    return elder is not None and not (younger == elder and younger in NAMES)


def steps_at(laid, state):
    """What the walker can do at a state of a program that is laid out so, in order: pairs (letters, state behind)."""
    place, elder, younger = state
    if place not in laid:
        return ()
    statement, behind = laid[place]
    if statement[0] in BRANCHES:
        return tuple([((), (onward, elder, younger)) for onward in sorted(set(ways(place, statement, behind)))])
    found = [(letters, (behind, *two)) for letters, two in moved_by(statement, (elder, younger))]
    return tuple(sorted(found, key=step_order))


def step_order(step):
    """What the steps at one state are ordered by."""
    return (numbers_of(step[0]), state_order(step[1]))


def moved_by(statement, two):
    """What a statement, no loop and no either, may do to the two things: pairs (letters, where they are then)."""
    word = statement[0]
    if word == "new":
        return made_in(statement[1], two)
    if word == "put":
        return [passed(two, statement[1], statement[2], "put" + statement[2])]
    if word == "take":
        return taken_from(statement[1], statement[2], two)
    if word == "move":
        return [moved_over(statement[1], statement[2], two)]
    if word == "end":
        return [emptied(two, statement[1])]
    return [passed(two, statement[2], statement[2], statement[1])]


def passed(two, source, target, deed):
    """Those of the two that are at the source go through the deed, and are at the target then."""
    letters = [sign + deed for sign, where in zip(SIGNS, two) if where == source]
    return (tuple(letters), tuple([target if where == source else where for where in two]))


def emptied(two, name):
    """What the name holds ends."""
    return passed(two, name, "x", "end")


def made_in(name, two):
    """A new thing is let pass, or picked as the elder one, or as the younger one."""
    letters, (elder, younger) = emptied(two, name)
    found = [(letters, (elder, younger))]
    if elder is None:
        found.append((letters, (name, None)))
    elif younger is None:
        found.append(((*letters, "y.new"), (elder, name)))
    return found


def taken_from(pile, name, two):
    """None of the two is taken, or the elder one, or the younger one."""
    letters, (elder, younger) = emptied(two, name)
    found = [(letters, (elder, younger))]
    if elder == pile:
        found.append(((*letters, "e.take" + pile), (name, younger)))
    if younger == pile:
        found.append(((*letters, "y.take" + pile), (elder, name)))
    return found


def moved_over(source, target, two):
    """The target holds what the source held."""
    if source == target:
        return ((), two)
    letters, then = emptied(two, target)
    return (letters, tuple([target if where == source else where for where in then]))
