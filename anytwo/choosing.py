"""The choices of a play, taken one after the other."""

from anytwo.errors import BadChoices, TooMany

MOST_CHOICES = 3000


class Choosing:
    """Choices, of which the first ones are taken already."""

    def __init__(self, choices):
        if len(choices) > MOST_CHOICES:
            raise TooMany(len(choices))
        self.choices = choices
        self.taken = 0

    def next_one(self, most):
        """Take the next choice, which must be from 0 to most; None if there is none left."""
        if self.taken == len(self.choices):
            return None
        choice = self.choices[self.taken]
        if choice < 0 or choice > most:
            raise BadChoices(self.taken)
        self.taken += 1
        return choice

    def ask_none_left(self):
        """Raise BadChoices if the play is at its end and choices are left."""
        if self.taken < len(self.choices):
            raise BadChoices(self.taken)
