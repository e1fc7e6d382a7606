"""What a rule is, and which words it describes."""

from anytwo.errors import BadRule, Refused, TooMany
from anytwo.letters import LETTERS, is_word
from anytwo.readings import Reading

MOST_PARTS = 24

# How many expressions stand within each kind of expression that is no letter.
INNER = {"any": 0, "nothing": 0, "then": 2, "or": 2, "and": 2, "star": 1, "not": 1}


def made_rule(thing):
    """Return thing, which is a rule; otherwise raise TooMany or BadRule."""
    count_part(thing, 0)
    return thing


def count_part(part, many):
    """Ask a part and those within it; return how many are counted up to its end, many of them ahead of it."""
    if many == MOST_PARTS:
        raise TooMany(MOST_PARTS + 1)
    if not is_part(part):
        raise BadRule(0)
    many += 1
    if isinstance(part, tuple):
        for inner in part[1:]:
            many = count_part(inner, many)
    return many


def is_part(thing):
    """Whether thing is an expression, whatever stands within it."""
    if isinstance(thing, str):
        return thing in LETTERS
    if not isinstance(thing, tuple) or len(thing) == 0:
        return False
    word = thing[0]
    return isinstance(word, str) and word in INNER and len(thing) == INNER[word] + 1


def is_rule(thing):
    """Whether thing is a rule."""
    try:
        made_rule(thing)
    except Refused:
        return False
    return True


def word_in(rule, word):
    """Whether rule is a rule and word is one of the words that it describes."""
    if not is_rule(rule) or not is_word(word):
        return False
    return Reading(rule).is_one(word)
