"""The form of statements, and where their bodies stand."""

NAMES = ("a", "b", "c", "d")
PILES = ("p", "q")
OWN_WORDS = ("u", "v", "w")

# What stands behind the word of each statement.
FORMS = {
    "new": ("name",),
    "put": ("name", "pile"),
    "take": ("pile", "name"),
    "move": ("name", "name"),
    "end": ("name",),
    "do": ("own word", "name"),
    "loop": ("body",),
    "either": ("body", "body"),
}

# The statements that lead to one of two places, and all that take a choice.
BRANCHES = ("loop", "either")
CHOOSERS = ("loop", "either", "take")


def fits(kind, part):
    """Whether part may stand where the form of a statement has this kind."""
    if kind == "name":
        return part in NAMES
    if kind == "pile":
        return part in PILES
    if kind == "own word":
        return part in OWN_WORDS
    return isinstance(part, tuple)


def has_form(thing):
    """Whether thing is a statement, whatever stands in its bodies."""
    if not isinstance(thing, tuple) or len(thing) == 0:
        return False
    word = thing[0]
    if not isinstance(word, str) or word not in FORMS:
        return False
    kinds = FORMS[word]
    if len(thing) != len(kinds) + 1:
        return False
    return all([fits(kind, part) for kind, part in zip(kinds, thing[1:])])


def bodies_at(place, statement):
    """The bodies of the statement at the place, each with the beginning of its statements' places."""
    if statement[0] == "loop":
        return ((statement[1], place),)
    if statement[0] == "either":
        return ((statement[1], place + (0,)), (statement[2], place + (1,)))
    return ()
