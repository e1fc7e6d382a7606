"""The things of one play: who holds them, where they lie, and what they go through."""

from anytwo.errors import TooMany
from anytwo.statements import NAMES, PILES

MOST_THINGS = 200


class Things:
    """All things that are made in a play, with the steps and the events so far."""

    def __init__(self, most=MOST_THINGS):
        # How many things may be made; None if any many may.
        self.most = most
        self.made = 0
        self.steps = 0
        self.events = []
        self.holds = {name: None for name in NAMES}
        self.piles = {pile: [] for pile in PILES}

    def do(self, statement, choice):
        """Do one statement, no loop and no either; choice is what a take was told to take."""
        word = statement[0]
        # Asked ahead of all else, for a refused statement must not end what its name holds.
        if word == "new" and self.made == self.most:
            raise TooMany(self.made + 1)
        self.steps += 1
        if word == "new":
            self.make(statement[1])
        elif word == "put":
            self.put(statement[1], statement[2])
        elif word == "take":
            self.take(statement[1], statement[2], choice)
        elif word == "move":
            self.move(statement[1], statement[2])
        elif word == "end":
            self.finish(statement[1])
        else:
            self.go_through(statement[1], statement[2])

    def tell(self, deed, thing):
        """Note an event of this step."""
        self.events.append((self.steps, deed, thing))

    def make(self, name):
        """The name holds a new thing."""
        self.finish(name)
        self.holds[name] = self.made
        self.tell("new", self.made)
        self.made += 1

    def put(self, name, pile):
        """What the name holds lies in the pile."""
        thing = self.holds[name]
        if thing is not None:
            self.tell("put" + pile, thing)
            self.holds[name] = None
            self.lay(pile, thing)

    def lay(self, pile, thing):
        """The thing lies among those of the pile, which are ascending; most come behind all others."""
        lying = self.piles[pile]
        at = len(lying)
        while at > 0 and lying[at - 1] > thing:
            at -= 1
        lying.insert(at, thing)

    def take(self, pile, name, choice):
        """The name holds the thing of the pile that has this number, from 1 on, or nothing for 0."""
        self.finish(name)
        if choice > 0:
            thing = self.piles[pile].pop(choice - 1)
            self.tell("take" + pile, thing)
            self.holds[name] = thing

    def move(self, source, target):
        """The target holds what the source held."""
        if source != target:
            self.finish(target)
            self.holds[target] = self.holds[source]
            self.holds[source] = None

    def finish(self, name):
        """What the name holds ends."""
        thing = self.holds[name]
        if thing is not None:
            self.tell("end", thing)
            self.holds[name] = None

    def go_through(self, word, name):
        """What the name holds goes through an own word."""
        thing = self.holds[name]
        if thing is not None:
            self.tell(word, thing)

    def held(self):
        """What the names hold, in their order."""
        return tuple([self.holds[name] for name in NAMES])

    def lying(self):
        """The things of the piles, in their order."""
        return tuple([tuple(self.piles[pile]) for pile in PILES])
