"""Tables with the fewest states.

Here a table's moves and bad states stand apart: moves is a list of rows, bad a list of bools.
"""

from anytwo.errors import TooMany
from anytwo.letters import LETTERS, MAKING
from anytwo.tablechecks import MOST_STATES

# Two tables meet at most 200 * 200 pairs of states. Only sets of states can be more, and those without end in
# practice; nothing is promised of a part that wants more than 5000 of them, so such a part is refused.
MOST_MET = 50000


def met_from(first, leads):
    """All that is met from the first one on, in the order of [10], and the moves between their numbers.

    leads(one) are the seventeen that the letters lead to from that one.
    """
    numbers = {first: 0}
    met = [first]
    moves = []
    while len(moves) < len(met):
        row = []
        onward = leads(met[len(moves)])
        for one in onward:
            if one not in numbers:
                if len(met) == MOST_MET:
                    raise TooMany(MOST_STATES + 1)
                numbers[one] = len(met)
                met.append(one)
            row.append(numbers[one])
        moves.append(tuple(row))
    return (met, moves)


def smallest(moves, bad):
    """The table with the fewest states in which the same words lead to bad states.

    All states are met from 0 on, in the order of [10].
    """
    sorts = sorted_out(moves, bad)
    firsts = {}
    for state, sort in enumerate(sorts):
        firsts.setdefault(sort, state)
    met, rows = met_from(sorts[0], lambda one: sorts_of(moves[firsts[one]], sorts))
    return (rows, [bad[firsts[one]] for one in met])


def sorts_of(row, sorts):
    """The sorts of the states in a row."""
    return [sorts[state] for state in row]


def sorted_out(moves, bad):
    """A number for each state, the same for two states if the same words lead from them to bad states."""
    sorts = [int(is_bad) for is_bad in bad]
    many = len(set(sorts))
    while True:
        finer = {}
        next_sorts = []
        for state, row in enumerate(moves):
            sight = (sorts[state], *sorts_of(row, sorts))
            next_sorts.append(finer.setdefault(sight, len(finer)))
        # States that differ once differ for ever, so more need not be sorted out.
        if len(finer) > MOST_STATES:
            raise TooMany(MOST_STATES + 1)
        if len(finer) == many:
            return sorts
        sorts = next_sorts
        many = len(finer)


def least_table(moves, bad):
    """The least table that is broken by the same words."""
    met, rows = met_from((0, False), lambda at: seen_behind(moves[at[0]], at[1]))
    least_rows, ends = smallest(rows, [seen and bad[state] for state, seen in met])
    return (tuple(least_rows), tuple(ends))


def seen_behind(row, seen):
    """Where the letters lead, each with whether y.new was among the letters so far."""
    return [(state, seen or letter == MAKING) for letter, state in enumerate(row)]


def all_letters(one):
    """That one seventeen times: all letters lead to it."""
    return (one,) * len(LETTERS)
