"""The letters of words, in their order."""

LETTERS = (
    "e.putp", "e.putq", "e.takep", "e.takeq", "e.end", "e.u", "e.v", "e.w",
    "y.putp", "y.putq", "y.takep", "y.takeq", "y.end", "y.u", "y.v", "y.w", "y.new",
)
# The number of y.new, which is the last letter.
MAKING = 16


def is_word(thing):
    """Whether thing is a tuple of letters."""
    return isinstance(thing, tuple) and all([part in LETTERS for part in thing])


def numbers_of(letters):
    """The numbers of these letters, by which words are ordered."""
    return tuple([LETTERS.index(letter) for letter in letters])
