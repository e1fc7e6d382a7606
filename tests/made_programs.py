"""Programs for tests, and all their short plays."""

from anytwo.errors import Refused
from anytwo.layouts import first_place
from anytwo.letters import LETTERS
from anytwo.places import places
from anytwo.plays import play
from anytwo.walker import steps_of
from expressions import breaks

NAMES = ("a", "b", "c", "d")
PILES = ("p", "q")

EXAMPLE = (("new", "a"), ("new", "b"), ("do", "u", "a"), ("end", "b"))
EXAMPLE_A = (("loop", (("new", "a"), ("put", "a", "p"), ("take", "p", "b"))),)
# A loop of eithers in which nearly all is possible at nearly all places: 40 statements.
LARGE = (("loop", (
    ("new", "a"), ("put", "a", "p"), ("take", "p", "b"), ("move", "b", "c"), ("either", (
        ("move", "c", "d"), ("either", (("put", "d", "q"),), (("do", "u", "d"),)), ("take", "q", "a"), ("put", "b", "p"),
    ), (
        ("new", "b"), ("loop", (("take", "p", "c"), ("do", "v", "c"), ("put", "c", "q"))), ("move", "b", "d"),
    )),
    ("either", (("take", "q", "b"), ("put", "d", "p")), (("take", "p", "d"), ("put", "a", "q"))),
    ("loop", (("move", "a", "b"), ("either", (("move", "b", "c"),), (("move", "d", "a"),)), ("do", "w", "b"))),
    ("either", (("end", "a"),), (("put", "b", "q"),)), ("new", "d"), ("do", "u", "d"), ("move", "d", "a"),
    ("take", "q", "c"), ("do", "v", "b"), ("take", "p", "b"), ("do", "u", "a"), ("put", "c", "p"),
)),)


def random_statement(source, names, piles, words=("u", "v")):
    """A statement other than a loop and an either."""
    name = source.choice(names)
    return source.choice((
        ("new", name), ("new", name), ("put", name, source.choice(piles)), ("put", name, source.choice(piles)),
        ("take", source.choice(piles), name), ("take", source.choice(piles), name), ("move", source.choice(names), name),
        ("end", name), ("do", source.choice(words), name),
    ))


def random_body(source, many, depth, names, piles):
    """A body of so many statements, those in its bodies among them, that may be so deep."""
    body = []
    while many > 0:
        kind = source.randrange(7)
        inner = source.randint(0, many - 1)
        if kind == 0 and depth > 1:
            body.append(("loop", random_body(source, inner, depth - 1, names, piles)))
            many -= inner + 1
        elif kind == 1 and depth > 1:
            first = source.randint(0, inner)
            body.append((
                "either", random_body(source, first, depth - 1, names, piles),
                random_body(source, inner - first, depth - 1, names, piles),
            ))
            many -= inner + 1
        else:
            body.append(random_statement(source, names, piles))
            many -= 1
    return tuple(body)


def random_program(source, many, depth=4, names=("a", "b"), piles=("p", "q")):
    return random_body(source, many, depth, names, piles)


def lively_program(source, many, depth=4, names=("a", "b"), piles=("p", "q")):
    """A loop in which things are made, with as many other statements in it and around it."""
    inside = source.randint(0, many)
    body = list(random_body(source, inside, depth - 1, names, piles))
    body.insert(source.randint(0, len(body)), ("new", source.choice(names)))
    around = list(random_body(source, many - inside, depth, names, piles))
    around.insert(source.randint(0, len(around)), ("loop", tuple(body)))
    return tuple(around)


def statement_at(program, place):
    """The statement at the place; None at the end."""
    inner = program
    for part in place:
        if part == len(inner) and inner is program:
            return None
        if inner and inner[0] == "loop":
            inner = inner[1]
        elif inner and inner[0] == "either":
            inner = inner[1 + part]
            continue
        inner = inner[part]
    return inner


def bounds_at(program, told):
    """The greatest choice that is let where the play stopped; None at the end."""
    statement = statement_at(program, told[2])
    if statement is None:
        return None
    if statement[0] == "take":
        return len(told[4][PILES.index(statement[1])])
    return 1


def plays_of(program, most):
    """All plays by up to so many choices: pairs of the choices and what play tells of them."""
    found = []
    open_ones = [()]
    while open_ones:
        choices = open_ones.pop()
        told = play(program, choices)
        found.append((choices, told))
        bound = bounds_at(program, told)
        if bound is not None and len(choices) < most:
            open_ones += [choices + (choice,) for choice in range(bound + 1)]
    return found


def wants_choice(statement):
    return statement is not None and statement[0] in ("loop", "either", "take")


def statements_of(program):
    """A dict from each place to its statement, from the end to None."""
    return {place: statement_at(program, place) for place in places(program)}


def words_of(events):
    """A dict from each pair of things to its word."""
    made = [thing for _, deed, thing in events if deed == "new"]
    words = {}
    for j in made:
        for i in range(j):
            word = []
            for _, deed, thing in events:
                if thing == i and deed != "new":
                    word.append("e." + deed)
                elif thing == j:
                    word.append("y." + deed)
            words[(i, j)] = tuple(word)
    return words


def slow_break(table_, events):
    """The first break of these events, (step, i, j), by all words of all pairs anew behind each event."""
    for many in range(1, len(events) + 1):
        step, _, last = events[many - 1]
        words = words_of(events[:many])
        for i, j in sorted(words):
            if last in (i, j) and breaks(table_, words[(i, j)]):
                return (step, i, j)
    return None


def slow_breaks_at(program, table_, choices):
    """The same of a play, by all beginnings of the choices; None if it is refused. Not for more than 200 things."""
    for many in range(len(choices) + 1):
        try:
            events = play(program, choices[:many])[0]
        except Refused:
            return None
        found = slow_break(table_, events)
        if found is not None:
            return found
    return None


def met_words(source, program, most):
    """Words of the pairs of one play, by up to so many choices at random."""
    choices = ()
    told = play(program, choices)
    while len(choices) < most and bounds_at(program, told) is not None:
        choices += (source.randint(0, bounds_at(program, told)),)
        told = play(program, choices)
    return [word for word in words_of(told[0]).values() if "y.new" in word]


def behind(many, tail):
    """A program in which a goes through u so many letters ahead of the tail: one must know of all of these letters."""
    either = ("either", (("do", "u", "a"),), (("do", "v", "a"),))
    return (("new", "a"), ("new", "b"), ("loop", (either,)), ("do", "u", "a")) + (either,) * many + tail


# Programs whose tables have just 199 and 200 states, and one whose table has more.
STATES_199 = behind(4, (
    ("loop", (("do", "u", "b"),)), ("either", (("do", "u", "a"),), (("do", "v", "a"),)),
    ("either", (("do", "u", "a"),), (("do", "v", "a"),)), ("either", (("do", "u", "a"),), (("do", "v", "b"),)),
    ("either", (("do", "w", "a"),), (("do", "u", "b"),)),
))
STATES_200 = behind(3, (
    ("loop", (("do", "u", "b"),)), ("either", (("do", "u", "a"),), (("do", "v", "a"),)),
    ("either", (("do", "u", "a"),), (("do", "v", "a"),)), ("either", (("do", "u", "a"),), (("do", "v", "a"),)),
    ("either", (("do", "u", "a"),), (("do", "v", "b"),)), ("either", (("do", "w", "a"),), (("do", "u", "b"),)),
))
MANY_STATES = behind(7, (("do", "w", "a"),))


class Walks:
    """What is read on walks of a program, by sets of places: (state of the walker, letters yet to be read)."""

    def __init__(self, program):
        self.program = program
        self.steps = {}
        self.first = self.closed({((first_place(program), None, None), ())})

    def steps_at(self, state):
        if state not in self.steps:
            self.steps[state] = steps_of(self.program, state)
        return self.steps[state]

    def closed(self, lot):
        """The same with all that is come to by steps without letters."""
        open_ones = list(lot)
        lot = set(lot)
        while open_ones:
            state, rest = open_ones.pop()
            if not rest:
                for row, onward in self.steps_at(state):
                    if row == () and (onward, ()) not in lot:
                        lot.add((onward, ()))
                        open_ones.append((onward, ()))
        return lot

    def led(self, lot, letter):
        ahead = set()
        for state, rest in lot:
            if rest:
                ahead |= {(state, rest[1:])} if rest[0] == letter else set()
            else:
                ahead |= {(onward, row[1:]) for row, onward in self.steps_at(state) if row[:1] == (letter,)}
        # Behind the first of two letters one stands ahead of the state behind both.
        return self.closed(ahead)

    def heads(self, lot):
        """The letters that lead on, in their order."""
        rows = [rest for _, rest in lot if rest]
        rows += [row for state, rest in lot if not rest for row, _ in self.steps_at(state) if row]
        return sorted({row[0] for row in rows}, key=LETTERS.index)

    def reads(self, word):
        """Whether the word is read on some walk, and has y.new."""
        lot = self.first
        for letter in word:
            lot = self.led(lot, letter)
        return "y.new" in word and bool(lot)

    def rows(self, most):
        """All rows of up to so many letters that are read, shortest first."""
        found = [((), self.first)]
        for row, lot in found:
            if len(row) < most:
                found += [(row + (letter,), self.led(lot, letter)) for letter in self.heads(lot)]
        return [row for row, _ in found]


def pair_words_of(events):
    """All words of the pairs in a play: all beginnings with y.new of what two things go through."""
    found = set()
    for word in words_of(events).values():
        if "y.new" in word:
            found |= {word[:many] for many in range(word.index("y.new") + 1, len(word) + 1)}
    return found
