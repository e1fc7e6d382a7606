"""The choices of a play, taken one after the other."""

from anytwo.errors import BadChoices, TooMany
from anytwo.statements import BRANCHES

MOST_CHOICES = 3000


class Choosing:
    """Choices, of which the first ones are taken already."""

    def __init__(self, choices):
        if len(choices) > MOST_CHOICES:
            raise TooMany(len(choices))
        self.choices = choices
        self.taken = 0

    def choice_for(self, statement, piles):
        """The choice that the statement takes, 0 if it takes none; None if it wants one that is not there."""
        if statement[0] in BRANCHES:
            return self.next_one(1)
        if statement[0] == "take":
            return self.next_one(len(piles[statement[1]]))
        return 0

    def next_one(self, most):
        """Take the next choice, which must be from 0 to most; None if there is none left."""
        if self.taken == len(self.choices):
            return None
        choice = self.choices[self.taken]
        if choice < 0 or choice > most:
            raise BadChoices(self.taken)
        self.taken += 1
        return choice

    def ask_none_left(self):
        """Raise BadChoices if the play is at its end and choices are left."""
        if self.taken < len(self.choices):
            raise BadChoices(self.taken)
