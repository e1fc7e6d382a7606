"""Programs read from texts."""

from anytwo.errors import BadText
from anytwo.programs import made_program
from anytwo.statements import OWN_WORDS, has_form

OPENING = {"loop {": ("loop",), "either {": ("either",)}


def read(text):
    """The program of a text."""
    rows = []
    if text != "":
        rows = text.split("\n")
    reading = Bodies()
    for index, row in enumerate(rows):
        if not reading.take_row(row):
            raise BadText(index)
    if reading.heads:
        raise BadText(len(rows))
    return made_program(tuple(reading.bodies[0]))


class Bodies:
    """The bodies that are not closed yet, and for each but the program's own what its statement has ahead of it."""

    def __init__(self):
        self.bodies = [[]]
        self.heads = []

    def take_row(self, row):
        """Take the next row; whether it can stand there."""
        if row in OPENING:
            self.begin_body(OPENING[row])
            return True
        if row == "} or {":
            return self.begin_second_body()
        if row == "}":
            return self.close_statement()
        statement = statement_of(row)
        if statement is not None:
            self.bodies[-1].append(statement)
        return statement is not None

    def begin_body(self, head):
        """Begin a body; its statement has so much ahead of it."""
        self.heads.append(head)
        self.bodies.append([])

    def is_first_of_either(self):
        """Whether the innermost body that is not closed is the first one of an either."""
        return self.heads[-1][0] == "either" and len(self.heads[-1]) == 1

    def begin_second_body(self):
        """Go from the first body of an either to the second one; whether it stood in the first one."""
        if not self.heads or not self.is_first_of_either():
            return False
        self.begin_body(self.closed_head())
        return True

    def close_statement(self):
        """Close the last body of a statement; whether there was such a one."""
        if not self.heads or self.is_first_of_either():
            return False
        statement = self.closed_head()
        self.bodies[-1].append(statement)
        return True

    def closed_head(self):
        """Close the innermost body: what its statement has up to the end of it."""
        head = self.heads.pop()
        return (*head, tuple(self.bodies.pop()))


def statement_of(row):
    """The statement that the row tells by itself; None if it tells none."""
    words = tuple(row.split(" "))
    if words[0] == "do":
        return None
    if words[0] in OWN_WORDS:
        words = ("do", *words)
    if has_form(words):
        return words
    return None
