"""The states of the walker that are reached."""

from anytwo.programs import made_program
from anytwo.walking import state_order
from anytwo.walks import walks


def reach(program):
    """All states to which steps lead from the first one, this one among them, in their order."""
    states, _ = walks(made_program(program))
    return tuple(sorted(states, key=state_order))
