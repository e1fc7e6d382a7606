"""A second way to find out whether an expression describes a word, and expressions made at random."""

from anytwo.letters import LETTERS


def spans(rule, word):
    """For each index the set of the indexes up to which a word of the rule may go from there."""
    size = len(word)
    starts = range(size + 1)
    if isinstance(rule, str):
        return [{at + 1} if at < size and word[at] == rule else set() for at in starts]
    kind = rule[0]
    if kind == "any":
        return [{at + 1} if at < size else set() for at in starts]
    if kind == "nothing":
        return [{at} for at in starts]
    one = spans(rule[1], word)
    if kind == "not":
        return [set(range(at, size + 1)) - one[at] for at in starts]
    if kind == "star":
        ends = [None] * (size + 1)
        for at in reversed(starts):
            ends[at] = {at}.union(*[ends[end] for end in one[at] if end > at])
        return ends
    two = spans(rule[2], word)
    if kind == "or":
        return [one[at] | two[at] for at in starts]
    if kind == "and":
        return [one[at] & two[at] for at in starts]
    return [set().union(*[two[end] for end in one[at]]) for at in starts]


def describes(rule, word):
    return len(word) in spans(rule, word)[0]


def random_rule(random, parts, letters):
    """A rule of so many parts, in which just these letters stand."""
    if parts == 1:
        return random.choice([*letters, *letters, ("any",), ("nothing",)])
    if parts == 2:
        return (random.choice(("star", "not")), random_rule(random, 1, letters))
    kind = random.choice(("then", "then", "or", "and", "star", "not"))
    if kind in ("star", "not"):
        return (kind, random_rule(random, parts - 1, letters))
    first = random.randint(1, parts - 2)
    return (kind, random_rule(random, first, letters), random_rule(random, parts - 1 - first, letters))


def random_word(random, size, letters):
    return tuple(random.choice(letters) for _ in range(size))


def chain(kind, parts):
    """All of the parts, joined by this kind."""
    rule = parts[-1]
    for part in reversed(parts[:-1]):
        rule = (kind, part, rule)
    return rule


def behind_the_last(letter, many):
    """All words in which this letter stands so many letters ahead of the last one: 2 ** (many + 1) states."""
    return ("then", ("star", ("any",)), ("then", letter, chain("then", [("any",)] * many)))


def led(table, word):
    """The state to which the word leads."""
    state = 0
    for letter in word:
        state = table[0][state][LETTERS.index(letter)]
    return state


def breaks(table, word):
    return "y.new" in word and table[1][led(table, word)]
