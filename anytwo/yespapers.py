"""Papers for yes: closed sets of what the walker and a table come to together."""

from anytwo.errors import Broken
from anytwo.layouts import laid_out
from anytwo.letters import numbers_of
from anytwo.programs import is_program, made_program
from anytwo.searches import Search
from anytwo.tablechecks import is_table, led, made_table
from anytwo.values import is_number
from anytwo.walking import WHERES, first_state, is_place, may_be_beside, state_order, steps_at


def yes_paper(program, table_):
    """The least yes paper, which tells that every play keeps the table."""
    search = Search(made_program(program), made_table(table_))
    if search.least is not None:
        raise Broken(search.least)
    states = search.states
    order = sorted(range(len(states)), key=lambda number: state_order(states[number]))
    ranks = {number: rank for rank, number in enumerate(order)}
    met = sorted([(ranks[number], state) for number, state in search.met()])
    return tuple([(*states[order[rank]], state) for rank, state in met])


def yes_right(program, table_, paper):
    """Whether paper is a yes paper, from which it follows that every play keeps the table."""
    if not is_program(program) or not is_table(table_) or not isinstance(paper, tuple):
        return False
    laid = laid_out(program)
    many = len(table_[1])
    if not all([is_quadruple(program, laid, many, thing) for thing in paper]):
        return False
    keys = [(*state_order(one), one[3]) for one in paper]
    if not all([key < other for key, other in zip(keys, keys[1:])]):
        return False
    return is_closed(program, laid, table_, paper)


def is_quadruple(program, laid, many, thing):
    """Whether thing is a state of the walker and one of so many states of a table."""
    if not isinstance(thing, tuple) or len(thing) != 4:
        return False
    place, elder, younger, state = thing
    if not is_number(state) or state < 0 or state >= many:
        return False
    return is_place(program, laid, place) and elder in WHERES and may_be_beside(elder, younger)


def is_closed(program, laid, table_, paper):
    """Whether the paper has the beginning, has what comes behind each of its quadruples, and has no broken one."""
    moves, bad = table_
    held = {one: True for one in paper}
    steps = {}
    if (*first_state(program), 0) not in held:
        return False
    for one in paper:
        state = one[:3]
        if state[2] is not None and bad[one[3]]:
            return False
        if state not in steps:
            steps[state] = [(numbers_of(letters), behind) for letters, behind in steps_at(laid, state)]
        for numbers, behind in steps[state]:
            if (*behind, led(moves, one[3], numbers)) not in held:
                return False
    return True
