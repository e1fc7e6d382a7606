"""Tables with the fewest states.

Here a table's moves and bad states stand apart: moves is a list of rows, bad a list of bools.
"""

from anytwo.errors import TooMany
from anytwo.letters import LETTERS, MAKING
from anytwo.tablechecks import MOST_STATES

# Two tables meet at most 200 * 200 pairs of states. Only sets of states, and lots of places on walks, can be more, and
# those without end in practice; nothing is promised of more than 5000 and 2000 of them, so so many are refused.
MOST_MET = 50000


def met_from(first, leads):
    """All that is met from the first one on, in the order of [10], and the moves between their numbers.

    leads(one) are the seventeen that the letters lead to from that one.
    """
    numbers = {first: 0}
    met = [first]
    moves = []
    while len(moves) < len(met):
        row = []
        onward = leads(met[len(moves)])
        for one in onward:
            if one not in numbers:
                if len(met) == MOST_MET:
                    raise TooMany(MOST_STATES + 1)
                numbers[one] = len(met)
                met.append(one)
            row.append(numbers[one])
        moves.append(tuple(row))
    return (met, moves)


def met_beside(one, two):
    """All pairs of states that two tables come to by the same words, and the moves between their numbers.

    one and two are the moves of the two tables.
    """
    return met_from((0, 0), lambda at: list(zip(one[at[0]], two[at[1]])))


def smallest(moves, bad):
    """The table with the fewest states in which the same words lead to bad states.

    All states are met from 0 on, in the order of [10].
    """
    sorts = sorted_out(moves, bad)
    firsts = {}
    for state, sort in enumerate(sorts):
        firsts.setdefault(sort, state)
    met, rows = met_from(sorts[0], lambda one: sorts_of(moves[firsts[one]], sorts))
    return (rows, [bad[firsts[one]] for one in met])


def sorts_of(row, sorts):
    """The sorts of the states in a row."""
    return [sorts[state] for state in row]


def sorted_out(moves, bad):
    """A number for each state, the same for two states if the same words lead from them to bad states.

    A sort is parted where its states lead to unlike sorts. One piece of it keeps its number: then only states that
    lead to one with a new number can differ from the others of their sort, and only these are looked at again.
    """
    sorts = [0] * len(moves)
    sizes = [len(moves)]
    ahead = states_ahead(moves)
    fresh = part_sorts(pieces_of(list(range(len(moves))), [(0, is_bad) for is_bad in bad]), sorts, sizes)
    while fresh:
        # States that differ once differ for ever, so more need not be sorted out.
        if len(sizes) > MOST_STATES:
            raise TooMany(MOST_STATES + 1)
        looked_at = sorted(set([state for one in fresh for state in ahead[one]]))
        sights = [(sorts[state], *sorts_of(moves[state], sorts)) for state in looked_at]
        fresh = part_sorts(pieces_of(looked_at, sights), sorts, sizes)
    return sorts


def states_ahead(moves):
    """For each state those from which a letter leads to it."""
    ahead = [[] for _ in moves]
    for state, row in enumerate(moves):
        for onward in row:
            ahead[onward].append(state)
    return ahead


def pieces_of(states, sights):
    """A dict from each sight, which begins with the sort, to the states that have it."""
    pieces = {}
    for state, sight in zip(states, sights):
        pieces.setdefault(sight, []).append(state)
    return pieces


def part_sorts(pieces, sorts, sizes):
    """Give new numbers to the pieces of sorts, all but one of each sort; return the states that got one."""
    of_sort = {}
    for sight, piece in pieces.items():
        of_sort.setdefault(sight[0], []).append(piece)
    fresh = []
    for sort, parted in of_sort.items():
        # The states of the sort that were not looked at, if there are any, are the piece that keeps the number;
        # otherwise the largest piece does, so that few states need to be looked at.
        if sum([len(piece) for piece in parted]) == sizes[sort]:
            parted = sorted(parted, key=len)[:-1]
        for piece in parted:
            sizes[sort] -= len(piece)
            for state in piece:
                sorts[state] = len(sizes)
            sizes.append(len(piece))
            fresh.extend(piece)
    return fresh


def least_table(moves, bad):
    """The least table that is broken by the same words."""
    met, rows = met_from((0, False), lambda at: seen_behind(moves[at[0]], at[1]))
    least_rows, ends = smallest(rows, [seen and bad[state] for state, seen in met])
    return (tuple(least_rows), tuple(ends))


def seen_behind(row, seen):
    """Where the letters lead, each with whether y.new was among the letters so far."""
    return [(state, seen or letter == MAKING) for letter, state in enumerate(row)]


def all_letters(one):
    """That one seventeen times: all letters lead to it."""
    return (one,) * len(LETTERS)
