"""Code for tests, and a slow way to run it."""

NAMES = "abcd"
PILES = "pq"


class Refusal(Exception):
    """What run is to raise: the name of the error and its what."""


def random_row(source, many):
    """A row of code that has so many, no stop."""
    kind = source.randrange(13)
    if kind < 4:
        return (("loop", "either", "jump", "loop")[kind], source.randrange(many))
    name, pile = source.choice("abc"), source.choice(PILES)
    return (
        ("new", name), ("new", name), ("put", name, pile), ("put", name, pile), ("take", pile, name), ("take", pile, name),
        ("move", source.choice("abc"), name), ("end", name), ("do", source.choice("uvw"), name),
    )[kind - 4]


def random_code(source, many):
    """Code of so many rows, which lead anywhere."""
    return tuple(random_row(source, many) for _ in range(many - 1)) + (("stop",),)


class SlowRun:
    """A run that keeps for each thing where it is: a name, a pile, or that it has ended."""

    def __init__(self, code, choices):
        self.code = code
        self.choices = choices
        self.taken = 0
        self.events = []
        self.steps = 0
        self.where = []
        # The greatest choice that was let when one was wanted last.
        self.bound = None

    def held_by(self, name):
        return self.where.index(name) if name in self.where else None

    def lying_in(self, pile):
        return [thing for thing, where in enumerate(self.where) if where == pile]

    def tell(self, deed, thing, where):
        self.events.append((self.steps, deed, thing))
        self.where[thing] = where

    def clear(self, name):
        if self.held_by(name) is not None:
            self.tell("end", self.held_by(name), "ended")

    def choice(self, bound):
        """The next choice, None if there is none."""
        self.bound = bound
        if self.taken == len(self.choices):
            return None
        if not 0 <= self.choices[self.taken] <= bound:
            raise Refusal("BadChoices", self.taken)
        self.taken += 1
        return self.choices[self.taken - 1]

    def told(self):
        names = tuple(self.held_by(name) for name in NAMES)
        return (tuple(self.events), self.steps, names, tuple(tuple(self.lying_in(pile)) for pile in PILES))

    def go(self):
        """Run it all; what run returns."""
        if len(self.choices) > 3000:
            raise Refusal("TooMany", len(self.choices))
        at = 0
        # The rows that were done behind the last choice.
        idle = 0
        while self.code[at] != ("stop",):
            word, *rest = self.code[at]
            choice = None
            if word in ("loop", "either", "take"):
                choice = self.choice(len(self.lying_in(rest[0])) if word == "take" else 1)
                if choice is None:
                    return self.told()
                idle = 0
            elif idle >= 100:
                raise Refusal("TooMany", 101)
            else:
                idle += 1
            if word == "jump" or (word, choice) in (("loop", 0), ("either", 1)):
                at = rest[0]
            else:
                at += 1
                if word not in ("loop", "either"):
                    self.step(word, rest, choice)
        if self.taken < len(self.choices):
            raise Refusal("BadChoices", self.taken)
        return self.told()

    def step(self, word, rest, choice):
        if word == "new" and len(self.where) == 200:
            raise Refusal("TooMany", 201)
        self.steps += 1
        name = rest[1] if word in ("take", "move", "do") else rest[0]
        if word == "new":
            self.clear(name)
            self.where.append(name)
            self.tell("new", len(self.where) - 1, name)
        elif word == "take":
            lying = self.lying_in(rest[0])
            self.clear(name)
            if choice:
                self.tell("take" + rest[0], lying[choice - 1], name)
        elif word == "move":
            if rest[0] != name:
                self.clear(name)
                if self.held_by(rest[0]) is not None:
                    self.where[self.held_by(rest[0])] = name
        elif self.held_by(name) is not None:
            deed, where = {"put": ("put" + rest[-1], rest[-1]), "end": ("end", "ended"), "do": (rest[0], name)}[word]
            self.tell(deed, self.held_by(name), where)


def slow_run(code, choices):
    """What run returns, or the name and the what of the error that it raises; and all events up to there."""
    running = SlowRun(code, choices)
    try:
        return (running.go(), running.events)
    except Refusal as error:
        return (error.args, running.events)


def decompiled(code, first=0, last=None):
    """The body of which these rows of compiled code are, the last one not among them."""
    at = first
    last = len(code) - 1 if last is None else last
    body = []
    while at < last:
        row = code[at]
        if row[0] == "loop":
            assert code[row[1] - 1] == ("jump", at), (at, row)
            body.append(("loop", decompiled(code, at + 1, row[1] - 1)))
            at = row[1]
        elif row[0] == "either":
            word, end = code[row[1] - 1]
            assert word == "jump" and end >= row[1], (at, row)
            body.append(("either", decompiled(code, at + 1, row[1] - 1), decompiled(code, row[1], end)))
            at = end
        else:
            body.append(row)
            at += 1
    assert at == last, (at, last)
    return tuple(body)
