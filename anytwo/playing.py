"""A play on its way."""

from anytwo.choosing import Choosing
from anytwo.layouts import end_of, first_place, laid_out, ways
from anytwo.statements import BRANCHES
from anytwo.things import Things


class Playing:
    """A play of a program by choices, of which some statements are done already."""

    def __init__(self, program, choices):
        self.choosing = Choosing(choices)
        self.things = Things()
        self.laid = laid_out(program)
        self.end = end_of(program)
        self.place = first_place(program)

    def go_on(self):
        """Do what stands at the place; whether that was to be done, and a choice for it was there if it wants one."""
        if self.place == self.end:
            self.choosing.ask_none_left()
            return False
        statement, behind = self.laid[self.place]
        choice = self.choosing.choice_for(statement, self.things.piles)
        if choice is None:
            return False
        if statement[0] in BRANCHES:
            self.place = ways(self.place, statement, behind)[choice]
        else:
            self.things.do(statement, choice)
            self.place = behind
        return True
