"""For each part of an expression the table with the fewest states in which its words lead to bad states.

Here a table's moves and bad states stand apart, as in smallest. A lot is a set of states of a table, as a
number: bit s stands for the state s.
"""

from anytwo.letters import LETTERS
from anytwo.smallest import all_letters, met_beside, met_from, smallest


def part_table(part):
    """The moves and the bad states of a part; TooMany for the first part that wants too many states."""
    if isinstance(part, str):
        return letter_table((part,))
    word = part[0]
    inner = [part_table(within) for within in part[1:]]
    if word == "any":
        return letter_table(LETTERS)
    if word == "nothing":
        return ([all_letters(1), all_letters(1)], [True, False])
    if word == "not":
        moves, bad = inner[0]
        return (moves, [not is_bad for is_bad in bad])
    if word == "then":
        return then_table(inner[0], inner[1])
    if word == "star":
        return star_table(inner[0])
    return both_table(word, inner[0], inner[1])


def letter_table(wanted):
    """All words of just one of the wanted letters."""
    first = tuple([1 if letter in wanted else 2 for letter in LETTERS])
    return ([first, all_letters(2), all_letters(2)], [False, True, False])


def both_table(word, one, two):
    """The words of an "or" or an "and"."""
    met, moves = met_beside(one[0], two[0])
    if word == "or":
        bad = [one[1][first] or two[1][second] for first, second in met]
    else:
        bad = [one[1][first] and two[1][second] for first, second in met]
    return smallest(moves, bad)


def then_table(one, two):
    """The words of a "then": a state of the first part, with a lot of the second one."""
    rows = lot_rows(two[0])
    met, moves = met_from((0, begun(0, one[1][0])), lambda at: then_behind(at, one, rows))
    bad_lot = lot_of(two[1])
    return smallest(moves, [(lot & bad_lot) != 0 for _, lot in met])


def then_behind(at, one, rows):
    """Where the letters lead in a "then"; rows are the lot rows of the second part."""
    moves, bad = one
    return [(first, begun(lot, bad[first])) for first, lot in zip(moves[at[0]], lots_behind(at[1], rows))]


def star_table(one):
    """The words of a "star": whether a round may end here, with a lot of its part."""
    rows = lot_rows(one[0])
    bad_lot = lot_of(one[1])
    met, moves = met_from((True, begun(0, True)), lambda at: star_behind(at[1], rows, bad_lot))
    return smallest(moves, [ended for ended, _ in met])


def star_behind(lot, rows, bad_lot):
    """Where the letters lead in a "star"; rows are the lot rows of its part."""
    return [star_state(onward, (onward & bad_lot) != 0) for onward in lots_behind(lot, rows)]


def star_state(lot, ended):
    """Whether a round may end here, with the lot in which the next one has begun if so."""
    return (ended, begun(lot, ended))


def begun(lot, may_begin):
    """The lot, with the beginning of its table where that may begin here."""
    if may_begin:
        return lot | 1
    return lot


def lot_of(bad):
    """The lot of the bad states."""
    lot = 0
    for state, is_bad in enumerate(bad):
        if is_bad:
            lot |= 1 << state
    return lot


def lot_rows(moves):
    """The rows of a table, each state in them as the lot of just this state."""
    return [[1 << state for state in row] for row in moves]


def lots_behind(lot, rows):
    """For each letter the lot to which it leads from a lot."""
    joined = all_letters(0)
    for state, row in enumerate(rows):
        if (lot >> state) & 1:
            joined = [behind | onward for behind, onward in zip(joined, row)]
    return joined
