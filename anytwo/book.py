"""Books, which lead a program through edits and tell what becomes of its rules."""

from anytwo.alikes import part_of
from anytwo.edits import exchanged, many_from, taken_out
from anytwo.errors import BadPlace, NothingToRedo, NothingToUndo, TooMany
from anytwo.programs import made_program
from anytwo.tablechecks import made_table
from anytwo.verdicts import least_steps

MOST_TABLES = 8
MOST_DEEDS = 100


class Book:
    """A program, tables that it is judged by, and the deeds that stand."""

    def __init__(self, program, tables):
        made_program(program)
        if len(tables) > MOST_TABLES:
            raise TooMany(len(tables))
        for table_ in tables:
            made_table(table_)
        self.now = program
        self.tables = tables
        # The programs ahead of each deed that stands, and those behind each undone deed that is left.
        self.before = []
        self.undone = []
        # The program ahead of the last change; None if there was no change.
        self.last = None

    def put(self, place, statement):
        """Put a statement into a body at a place, ahead of what stands there."""
        if many_from(self.now, place) is None:
            raise BadPlace(place)
        self.stand(exchanged(self.now, place, 0, (statement,)))

    def strike(self, place):
        """Strike the statement at the place, with its bodies."""
        self.ask_statement(place)
        self.stand(exchanged(self.now, place, 1, ()))

    def loop_over(self, place, many):
        """Make so many statements of a body, from the place on, the body of a loop."""
        there = many_from(self.now, place)
        if there is None or many < 1 or many > there:
            raise BadPlace((place, many))
        body = taken_out(self.now, place, many)
        self.stand(exchanged(self.now, place, many, (("loop", body),)))

    def either_of(self, place, statements):
        """Make the statement at the place the first body of an either; the second one are other statements."""
        self.ask_statement(place)
        body = taken_out(self.now, place, 1)
        self.stand(exchanged(self.now, place, 1, (("either", body, statements),)))

    def flip(self, place):
        """Exchange the two bodies of the either at the place."""
        self.ask_statement(place)
        statement = taken_out(self.now, place, 1)[0]
        if statement[0] != "either":
            raise BadPlace(place)
        _, one, other = statement
        self.stand(exchanged(self.now, place, 1, (("either", other, one),)))

    def undo(self):
        """Take back the last deed that stands."""
        if not self.before:
            raise NothingToUndo(0)
        self.undone.append(self.now)
        self.turn_to(self.before.pop())

    def redo(self):
        """Do again the deed that was undone last."""
        if not self.undone:
            raise NothingToRedo(0)
        self.before.append(self.now)
        self.turn_to(self.undone.pop())

    def program(self):
        """The program as it stands."""
        return self.now

    def verdicts(self):
        """For each table True if the program keeps it, otherwise the least step at which some play breaks it."""
        steps = [least_steps(self.now, table_) for table_ in self.tables]
        return tuple([True if least is None else least for least in steps])

    def grown(self):
        """Whether the program has all words of pairs that the one ahead of the last change has."""
        return self.last is None or part_of(self.last, self.now)

    def ask_statement(self, place):
        """Raise BadPlace unless a statement stands at the place."""
        if many_from(self.now, place) in (None, 0):
            raise BadPlace(place)

    def stand(self, program):
        """A deed that leads to this program stands from now on, if it may."""
        made_program(program)
        if len(self.before) == MOST_DEEDS:
            raise TooMany(MOST_DEEDS + 1)
        self.before.append(self.now)
        self.undone = []
        self.turn_to(program)

    def turn_to(self, program):
        """The program as it stands becomes another one."""
        self.last = self.now
        self.now = program
