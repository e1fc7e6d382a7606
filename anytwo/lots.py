"""Lots: sets of places on walks, those at which one can be behind the same letters."""

from anytwo.letters import LETTERS, numbers_of
from anytwo.smallest import met_from
from anytwo.walks import walks


class Lots:
    """The places on all walks of a program, and to which lots letters lead.

    A lot is a number, whose binary digits tell which of the places that letters lead on from are in it. One more
    digit tells that it is not empty, for there may be places in it from which no letter leads on.
    """

    def __init__(self, program):
        # For each place where steps without letters lead, and where letters lead, as pairs (letter, place behind).
        # The walker's states come first, then what stands between two letters of one step.
        self.silent = []
        self.lettered = []
        self.note_walks(walks(program)[1])
        self.filled = 1 << len(self.lettered)
        lots = {}
        for pairs in self.lettered:
            for _, behind in pairs:
                if behind not in lots:
                    lots[behind] = self.lot_from(behind)
        self.first = self.lot_from(0)
        # For each place the letters that lead on from it, with the lots behind them.
        self.led = [[(letter, lots[onward]) for letter, onward in row] for row in self.lettered]

    def note_walks(self, steps):
        """Note the places on the walker's steps, which are given for each of its states."""
        for _ in steps:
            self.new_place()
        for at, row in enumerate(steps):
            for letters, behind in row:
                if letters:
                    self.note_letters(at, numbers_of(letters), behind)
                else:
                    self.silent[at].append(behind)

    def new_place(self):
        """The number of one more place."""
        self.silent.append([])
        self.lettered.append([])
        return len(self.lettered) - 1

    def note_letters(self, at, numbers, behind):
        """Note a step with letters of these numbers."""
        for number in numbers[:-1]:
            between = self.new_place()
            self.lettered[at].append((number, between))
            at = between
        self.lettered[at].append((numbers[-1], behind))

    def lot_from(self, place):
        """The lot of a place and all that is come to from it by steps without letters."""
        lot = self.filled
        met = {place: True}
        waiting = [place]
        while waiting:
            at = waiting.pop()
            if self.lettered[at]:
                lot |= 1 << at
            for behind in self.silent[at]:
                if behind not in met:
                    met[behind] = True
                    waiting.append(behind)
        return lot

    def leads(self, lot):
        """The lots to which the seventeen letters lead from a lot."""
        row = [0] * len(LETTERS)
        digits = f"{lot:b}"
        for led, digit in zip(self.led, digits[::-1]):
            if digit == "1":
                for letter, behind in led:
                    row[letter] |= behind
        return row


def table_of_lots(program):
    """The moves of a table that has a state for each lot, and which lots are not empty."""
    lots = Lots(program)
    met, moves = met_from(lots.first, lots.leads)
    return (moves, [lot != 0 for lot in met])
