"""Tables as texts."""

from anytwo.errors import BadText, TooMany
from anytwo.letters import LETTERS
from anytwo.tablechecks import MOST_STATES, made_table

BAD_SIGN = "!"
DIGITS = "0123456789"
MOST_DIGITS = 3


def table_text(table_):
    """The text of a table: a row for each state."""
    moves, bad = made_table(table_)
    return "\n".join([row_text(row, is_bad) for row, is_bad in zip(moves, bad)])


def row_text(row, is_bad):
    """The row of one state."""
    words = [str(state) for state in row]
    if is_bad:
        words.append(BAD_SIGN)
    return " ".join(words)


def table_of(text):
    """The table of such a text."""
    rows = text.split("\n")
    moves = []
    bad = []
    for index, row in enumerate(rows):
        words = row.split(" ")
        is_bad = words[-1] == BAD_SIGN
        if is_bad:
            words.pop()
        if len(words) != len(LETTERS) or not all([is_state_text(word, len(rows)) for word in words]):
            raise BadText(index)
        moves.append(tuple([int(word) for word in words]))
        bad.append(is_bad)
    if len(rows) > MOST_STATES:
        raise TooMany(len(rows))
    return (tuple(moves), tuple(bad))


def is_state_text(word, many):
    """Whether word is the text of one of so many states."""
    if len(word) == 0 or len(word) > MOST_DIGITS:
        return False
    # Each number has just one text, and other digits than these are none here.
    if not all([sign in DIGITS for sign in word]) or (len(word) > 1 and word[0] == "0"):
        return False
    return int(word) < many
