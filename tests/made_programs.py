"""Programs for tests, and all their short plays."""

from anytwo.errors import Refused
from anytwo.places import places
from anytwo.plays import play
from expressions import breaks

NAMES = ("a", "b", "c", "d")
PILES = ("p", "q")

EXAMPLE = (("new", "a"), ("new", "b"), ("do", "u", "a"), ("end", "b"))
EXAMPLE_A = (("loop", (("new", "a"), ("put", "a", "p"), ("take", "p", "b"))),)
# A loop of eithers in which nearly all is possible at nearly all places: 40 statements.
LARGE = (("loop", (
    ("new", "a"), ("put", "a", "p"), ("take", "p", "b"), ("move", "b", "c"), ("either", (
        ("move", "c", "d"), ("either", (("put", "d", "q"),), (("do", "u", "d"),)), ("take", "q", "a"), ("put", "b", "p"),
    ), (
        ("new", "b"), ("loop", (("take", "p", "c"), ("do", "v", "c"), ("put", "c", "q"))), ("move", "b", "d"),
    )),
    ("either", (("take", "q", "b"), ("put", "d", "p")), (("take", "p", "d"), ("put", "a", "q"))),
    ("loop", (("move", "a", "b"), ("either", (("move", "b", "c"),), (("move", "d", "a"),)), ("do", "w", "b"))),
    ("either", (("end", "a"),), (("put", "b", "q"),)), ("new", "d"), ("do", "u", "d"), ("move", "d", "a"),
    ("take", "q", "c"), ("do", "v", "b"), ("take", "p", "b"), ("do", "u", "a"), ("put", "c", "p"),
)),)


def random_statement(source, names, piles, words=("u", "v")):
    """A statement other than a loop and an either."""
    name = source.choice(names)
    return source.choice((
        ("new", name), ("new", name), ("put", name, source.choice(piles)), ("put", name, source.choice(piles)),
        ("take", source.choice(piles), name), ("take", source.choice(piles), name), ("move", source.choice(names), name),
        ("end", name), ("do", source.choice(words), name),
    ))


def random_body(source, many, depth, names, piles):
    """A body of so many statements, those in its bodies among them, that may be so deep."""
    body = []
    while many > 0:
        kind = source.randrange(7)
        inner = source.randint(0, many - 1)
        if kind == 0 and depth > 1:
            body.append(("loop", random_body(source, inner, depth - 1, names, piles)))
            many -= inner + 1
        elif kind == 1 and depth > 1:
            first = source.randint(0, inner)
            body.append((
                "either", random_body(source, first, depth - 1, names, piles),
                random_body(source, inner - first, depth - 1, names, piles),
            ))
            many -= inner + 1
        else:
            body.append(random_statement(source, names, piles))
            many -= 1
    return tuple(body)


def random_program(source, many, depth=4, names=("a", "b"), piles=("p", "q")):
    return random_body(source, many, depth, names, piles)


def lively_program(source, many, depth=4, names=("a", "b"), piles=("p", "q")):
    """A loop in which things are made, with as many other statements in it and around it."""
    inside = source.randint(0, many)
    body = list(random_body(source, inside, depth - 1, names, piles))
    body.insert(source.randint(0, len(body)), ("new", source.choice(names)))
    around = list(random_body(source, many - inside, depth, names, piles))
    around.insert(source.randint(0, len(around)), ("loop", tuple(body)))
    return tuple(around)


def statement_at(program, place):
    """The statement at the place; None at the end."""
    inner = program
    for part in place:
        if part == len(inner) and inner is program:
            return None
        if inner and inner[0] == "loop":
            inner = inner[1]
        elif inner and inner[0] == "either":
            inner = inner[1 + part]
            continue
        inner = inner[part]
    return inner


def bounds_at(program, told):
    """The greatest choice that is let where the play stopped; None at the end."""
    statement = statement_at(program, told[2])
    if statement is None:
        return None
    if statement[0] == "take":
        return len(told[4][PILES.index(statement[1])])
    return 1


def plays_of(program, most):
    """All plays by up to so many choices: pairs of the choices and what play tells of them."""
    found = []
    open_ones = [()]
    while open_ones:
        choices = open_ones.pop()
        told = play(program, choices)
        found.append((choices, told))
        bound = bounds_at(program, told)
        if bound is not None and len(choices) < most:
            open_ones += [choices + (choice,) for choice in range(bound + 1)]
    return found


def wants_choice(statement):
    return statement is not None and statement[0] in ("loop", "either", "take")


def statements_of(program):
    """A dict from each place to its statement, from the end to None."""
    return {place: statement_at(program, place) for place in places(program)}


def words_of(events):
    """A dict from each pair of things to its word."""
    made = [thing for _, deed, thing in events if deed == "new"]
    words = {}
    for j in made:
        for i in range(j):
            word = []
            for _, deed, thing in events:
                if thing == i and deed != "new":
                    word.append("e." + deed)
                elif thing == j:
                    word.append("y." + deed)
            words[(i, j)] = tuple(word)
    return words


def slow_break(table_, events):
    """The first break of these events, (step, i, j), by all words of all pairs anew behind each event."""
    for many in range(1, len(events) + 1):
        step, _, last = events[many - 1]
        words = words_of(events[:many])
        for i, j in sorted(words):
            if last in (i, j) and breaks(table_, words[(i, j)]):
                return (step, i, j)
    return None


def slow_breaks_at(program, table_, choices):
    """The same of a play, by all beginnings of the choices; None if it is refused. Not for more than 200 things."""
    for many in range(len(choices) + 1):
        try:
            events = play(program, choices[:many])[0]
        except Refused:
            return None
        found = slow_break(table_, events)
        if found is not None:
            return found
    return None


def met_words(source, program, most):
    """Words of the pairs of one play, by up to so many choices at random."""
    choices = ()
    told = play(program, choices)
    while len(choices) < most and bounds_at(program, told) is not None:
        choices += (source.randint(0, bounds_at(program, told)),)
        told = play(program, choices)
    return [word for word in words_of(told[0]).values() if "y.new" in word]
