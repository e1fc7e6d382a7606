"""All pairs of the things of a play, and the first of them that breaks a table."""

from anytwo.letters import LETTERS


def led_by_letters(moves):
    """A dict from each letter to the states to which it leads, from each state in their order."""
    return {letter: [row[number] for row in moves] for number, letter in enumerate(LETTERS)}


class Pairs:
    """Each pair of things with the state of a table to which its word so far leads."""

    def __init__(self, table_):
        moves, self.bad = table_
        self.led = led_by_letters(moves)
        # For each thing the states of its pairs with the elder ones, ascending.
        self.rows = []
        # For each thing the state of its pairs with all that are yet to be made.
        self.alone = []
        self.seen = 0

    def first_break(self, events):
        """Go on by those of the events that were not seen yet; the first break (step, i, j), None if there is none."""
        while self.seen < len(events):
            step, deed, thing = events[self.seen]
            self.seen += 1
            pair = self.broken_by(deed, thing)
            if pair is not None:
                return (step, *pair)
        return None

    def broken_by(self, deed, thing):
        """The thing goes through the deed: the least pair that breaks the table by this, None if none does."""
        if deed == "new":
            self.rows.append(list(self.alone))
            self.alone.append(0)
            return self.with_elders(thing, self.led["y.new"])
        # The pairs in which the thing is the younger one come ahead of those in which it is the elder one.
        pair = self.with_elders(thing, self.led["y." + deed])
        other = self.with_younger(thing, self.led["e." + deed])
        if pair is None:
            return other
        return pair

    def with_elders(self, thing, led):
        """Its pairs with all elder things go on; the least one that breaks the table, None if none does."""
        row = [led[state] for state in self.rows[thing]]
        self.rows[thing] = row
        for elder, state in enumerate(row):
            if self.bad[state]:
                return (elder, thing)
        return None

    def with_younger(self, thing, led):
        """Its pairs with all younger things go on; the least one that breaks the table, None if none does."""
        self.alone[thing] = led[self.alone[thing]]
        pair = None
        for younger in range(thing + 1, len(self.rows)):
            row = self.rows[younger]
            row[thing] = led[row[thing]]
            if pair is None and self.bad[row[thing]]:
                pair = (thing, younger)
        return pair


def broken_in_step(table_, events, wanted):
    """The least pair that breaks the table at the first event of the wanted step at which one does; None if none does.

    It is asked only where no pair breaks the table ahead of this step, so just the things of this step matter.
    """
    led = led_by_letters(table_[0])
    indexes = {}
    for index, (step, _, thing) in enumerate(events):
        indexes.setdefault(thing, []).append(index)
        if step == wanted:
            for other in range(len(indexes)):
                pair = (min(thing, other), max(thing, other))
                if thing != other and table_[1][state_of(pair, events, indexes, led)]:
                    return pair
    return None


def state_of(pair, events, indexes, led):
    """The state to which the word of a pair leads; indexes are those of each thing's events so far."""
    elder, younger = pair
    state = 0
    for index in sorted(indexes[elder] + indexes[younger]):
        _, deed, thing = events[index]
        if thing == younger:
            state = led["y." + deed][state]
        elif deed != "new":
            state = led["e." + deed][state]
    return state
