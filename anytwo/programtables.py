"""What all pairs of a program go through."""

from anytwo.lots import table_of_lots
from anytwo.programs import made_program
from anytwo.smallest import least_table


def program_table(program):
    """The least table that is broken by just the pair words of the program."""
    moves, bad = table_of_lots(made_program(program))
    return least_table(moves, bad)


def tightest(program):
    """The least table that is broken by all words with y.new that are no pair words of the program."""
    moves, bad = program_table(program)
    return least_table(moves, [not is_bad for is_bad in bad])
