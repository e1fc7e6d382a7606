"""Rules as texts."""

from anytwo.errors import BadText, TooMany
from anytwo.letters import LETTERS
from anytwo.rules import INNER, MOST_PARTS, made_rule


def told_rule(rule):
    """The text of a rule."""
    return text_of(made_rule(rule))


def text_of(part):
    """The text of a part of a rule."""
    if isinstance(part, str):
        return part
    inner = [text_of(one) for one in part[1:]]
    if not inner:
        return part[0]
    return part[0] + "(" + " ".join(inner) + ")"


def read_rule(text):
    """The rule of a text."""
    reading = RuleReading(text)
    rule = reading.next_part()
    if reading.at < len(text):
        raise BadText(reading.at)
    return rule


def all_beginnings():
    """What the texts of parts begin with, up to the parts within them; none of these begins another one."""
    return [*LETTERS, *[word + "(" if many > 0 else word for word, many in INNER.items()]]


class RuleReading:
    """A text, of which the first signs are read already."""

    def __init__(self, text):
        self.text = text
        self.at = 0
        self.many = 0
        self.beginnings = all_beginnings()

    def next_part(self):
        """Read the part that must begin here."""
        if self.many == MOST_PARTS:
            raise TooMany(MOST_PARTS + 1)
        self.many += 1
        beginning = self.next_beginning()
        if beginning in LETTERS:
            return beginning
        if beginning in INNER:
            return (beginning,)
        word = beginning[:-1]
        inner = [self.next_part()]
        while len(inner) < INNER[word]:
            self.pass_sign(" ")
            inner.append(self.next_part())
        self.pass_sign(")")
        return (word, *inner)

    def next_beginning(self):
        """Read what a part begins with."""
        lengths = [self.shared(beginning) for beginning in self.beginnings]
        for beginning, length in zip(self.beginnings, lengths):
            if length == len(beginning):
                self.at += length
                return beginning
        raise BadText(self.at + max(lengths))

    def shared(self, beginning):
        """How many signs of a beginning stand here."""
        length = 0
        for sign, there in zip(beginning, self.text[self.at:self.at + len(beginning)]):
            if sign != there:
                return length
            length += 1
        return length

    def pass_sign(self, sign):
        """Read this sign."""
        if self.text[self.at:self.at + 1] != sign:
            raise BadText(self.at)
        self.at += 1
