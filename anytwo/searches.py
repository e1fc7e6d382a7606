"""The walker's states together with the states of a table, up to the first break."""

from heapq import heappop, heappush

from anytwo.layouts import laid_out
from anytwo.letters import numbers_of
from anytwo.walks import walks

# What is behind a letter at which the table is broken: nobody asks there for more.
BROKEN = -1

# How many steps and how many choices a statement counts; any other one is a step without a choice.
COSTS = {"loop": (0, 1), "either": (0, 1), "take": (1, 1)}


class Search:
    """All that the walker and a table come to together, by few steps first and then by few choices.

    A node stands for both: the number of the walker's state times the number of the table's states, and the table's
    state. The search ends at the first break.
    """

    def __init__(self, program, table_):
        self.moves, self.bad = table_
        self.laid = laid_out(program)
        self.states, self.steps = walks(program)
        # For the letters of a step, and from which of them on the table can be broken, where they lead from each state.
        self.led = {}
        self.edges = [self.edges_at(number) for number in range(len(self.states))]
        # For each node that was met the one ahead of it.
        self.ahead = {}
        self.least = None
        self.look()

    def edges_at(self, number):
        """What leads on from a state of the walker: (steps, choices, where the table is led, the first node behind)."""
        state = self.states[number]
        edges = []
        for letters, behind in self.steps[number]:
            steps, choices = COSTS.get(self.laid[state[0]][0][0], (1, 0))
            # The younger thing may be picked at the last letter.
            first = len(letters)
            if state[2] is not None:
                first = 0
            elif self.states[behind][2] is not None:
                first = len(letters) - 1
            edges.append((steps, choices, self.led_from(letters, first), behind * len(self.bad)))
        return edges

    def led_from(self, letters, first):
        """The states to which letters lead, from each state; BROKEN where a letter from the first one on breaks it."""
        if (letters, first) not in self.led:
            numbers = numbers_of(letters)
            self.led[(letters, first)] = [self.led_by(state, numbers, first) for state in range(len(self.bad))]
        return self.led[(letters, first)]

    def led_by(self, state, numbers, first):
        """The state to which the letters of these numbers lead, or BROKEN."""
        for index, number in enumerate(numbers):
            state = self.moves[state][number]
            if index >= first and self.bad[state]:
                return BROKEN
        return state

    def look(self):
        """Meet the nodes, those of few steps first and among these those of few choices."""
        queue = [(0, 0, 0, 0)]
        while queue:
            steps, choices, node, ahead = heappop(queue)
            if node not in self.ahead:
                self.ahead[node] = ahead
                if node == BROKEN:
                    self.least = steps
                    return
                number, state = divmod(node, len(self.bad))
                for more_steps, more_choices, led, base in self.edges[number]:
                    behind = BROKEN if led[state] == BROKEN else base + led[state]
                    if behind not in self.ahead:
                        heappush(queue, (steps + more_steps, choices + more_choices, behind, node))

    def way(self):
        """The states of the walker on the way to the break, the one behind it at last."""
        nodes = [self.ahead[BROKEN]]
        while nodes[-1] != 0:
            nodes.append(self.ahead[nodes[-1]])
        way = [self.states[node // len(self.bad)] for node in reversed(nodes)]
        number, state = divmod(nodes[0], len(self.bad))
        for edge, (_, behind) in zip(self.edges[number], self.steps[number]):
            if edge[2][state] == BROKEN:
                return [*way, self.states[behind]]
        return way

    def met(self):
        """The nodes that were met, each as the number of the walker's state and the table's state."""
        return [divmod(node, len(self.bad)) for node in self.ahead]
