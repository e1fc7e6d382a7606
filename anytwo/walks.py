"""All that the walker can reach in a program."""

from anytwo.layouts import laid_out
from anytwo.walking import first_state, steps_at


def walks(program):
    """The states that the walker reaches, as they are met, and for each its steps.

    A step is a pair: its letters, and the number of the state behind among these.
    """
    laid = laid_out(program)
    states = [first_state(program)]
    numbers = {states[0]: 0}
    steps = []
    while len(steps) < len(states):
        row = []
        for letters, behind in steps_at(laid, states[len(steps)]):
            if behind not in numbers:
                numbers[behind] = len(states)
                states.append(behind)
            row.append((letters, numbers[behind]))
        steps.append(row)
    return (states, steps)
