"""Code on its way."""

from anytwo.choosing import Choosing
from anytwo.coderows import STOP
from anytwo.errors import TooMany
from anytwo.statements import CHOOSERS
from anytwo.things import Things

# How many rows may be done one behind the other that take no choice.
MOST_IDLE = 100


class Running:
    """A run of code by choices, of which some rows are done already."""

    def __init__(self, code, choices):
        self.choosing = Choosing(choices)
        self.things = Things()
        self.code = code
        self.at = 0
        self.idle = 0

    def go_on(self):
        """Do the row that comes next; whether that was to be done, and a choice for it was there if it wants one."""
        row = self.code[self.at]
        if row == STOP:
            self.choosing.ask_none_left()
            return False
        choice = self.choosing.choice_for(row, self.things.piles)
        if choice is None:
            return False
        self.count_idle(row)
        self.do(row, choice)
        return True

    def count_idle(self, row):
        """Ask whether the row may be done, which takes no choice or has its choice."""
        if row[0] in CHOOSERS:
            self.idle = 0
        elif self.idle == MOST_IDLE:
            raise TooMany(MOST_IDLE + 1)
        else:
            self.idle += 1

    def do(self, row, choice):
        """Do the row, which is no stop, with the choice that it takes."""
        onward = self.at + 1
        if row[0] == "jump":
            onward = row[1]
        elif row[0] == "loop":
            onward = (row[1], onward)[choice]
        elif row[0] == "either":
            onward = (onward, row[1])[choice]
        else:
            self.things.do(row, choice)
        self.at = onward
