"""Tables of rules, and least tables."""

from anytwo.parts import part_table
from anytwo.rules import made_rule
from anytwo.smallest import least_table
from anytwo.tablechecks import made_table


def table(rule):
    """The least table that is broken by just the words of the rule that have y.new."""
    moves, bad = part_table(made_rule(rule))
    return least_table(moves, bad)


def least(table_):
    """The least table that is broken by the same words."""
    moves, bad = made_table(table_)
    return least_table(moves, bad)
