"""Programs beside each other: what their pairs can go through."""

from anytwo.letters import numbers_of
from anytwo.programs import made_program
from anytwo.programtables import program_table
from anytwo.tablechecks import led
from anytwo.tablesums import apart, first_word


def both_tables(one, two):
    """The tables of what the pairs of two programs go through."""
    made_program(one)
    made_program(two)
    return (program_table(one), program_table(two))


def alike(one, two):
    """Whether two programs have the same pair words."""
    tables = both_tables(one, two)
    return tables[0] == tables[1]


def parting(one, two):
    """The first word that is a pair word of just one program, and which one this is, 0 or 1; None if there is none."""
    tables = both_tables(one, two)
    word = apart(tables[0], tables[1])
    if word is None:
        return None
    moves, bad = tables[0]
    if bad[led(moves, 0, numbers_of(word))]:
        return (word, 0)
    return (word, 1)


def part_of(one, two):
    """Whether each pair word of the first program is one of the second program."""
    tables = both_tables(one, two)
    return first_word(tables[0], tables[1], lambda first, second: first and not second, False) is None
