"""All pairs of the things of a play, and the first of them that breaks a table."""

from anytwo.letters import LETTERS

# The deeds behind which a thing is held no longer.
LAST_DEEDS = ("putp", "putq", "end")


def led_by_letters(moves):
    """A dict from each letter to the states to which it leads, from each state in their order."""
    return {letter: [row[number] for row in moves] for number, letter in enumerate(LETTERS)}


class Pairs:
    """Each pair of things with the state of a table to which its word so far leads.

    A thing at rest, which lies in a pile or has ended, goes through nothing until it is taken. So the things at rest
    whose pairs with a held thing have the same state stay together as long as it is held, however much it goes through.
    """

    def __init__(self, table_):
        moves, self.bad = table_
        self.led = led_by_letters(moves)
        # For each thing the states of its pairs with the elder ones, ascending; those of a held thing and one at rest
        # are kept below.
        self.rows = []
        # For each thing the state of its pairs with all that are yet to be made.
        self.alone = []
        # For each held thing the things at rest, by its sign in the pair and the pair's state.
        self.in_names = {}
        self.seen = 0

    def first_break(self, events):
        """Go on by those of the events that were not seen yet; the first break (step, i, j), None if there is none."""
        while self.seen < len(events):
            step, deed, thing = events[self.seen]
            self.seen += 1
            broken = self.broken_by(deed, thing)
            if broken:
                # Its pairs with elder things come ahead of those with younger ones.
                return (step, *sorted((thing, min(broken))))
        return None

    def broken_by(self, deed, thing):
        """The thing goes through the deed: the other things of the pairs that break the table by this."""
        if deed == "new":
            self.rows.append(list(self.alone))
            self.alone.append(0)
        else:
            self.alone[thing] = self.led["e." + deed][self.alone[thing]]
        if thing not in self.in_names:
            self.pick_up(thing)
        broken = self.broken_at_rest(deed, thing) + self.broken_in_names(deed, thing)
        if deed in LAST_DEEDS:
            self.lay_down(thing)
        return broken

    def broken_at_rest(self, deed, thing):
        """Its pairs with things at rest go on: those things of them with which it breaks the table."""
        broken = []
        together = {}
        for (sign, state), others in self.in_names[thing].items():
            key = (sign, self.led[sign + deed][state])
            if self.bad[key[1]]:
                broken.extend(others)
            if key in together:
                together[key].extend(others)
            else:
                together[key] = others
        self.in_names[thing] = together
        return broken

    def broken_in_names(self, deed, thing):
        """Its pairs with held things go on: those things of them with which it breaks the table."""
        broken = []
        for other in self.in_names:
            if other != thing:
                sign, state = self.key(thing, other)
                behind = self.led[sign + deed][state]
                self.note(thing, other, behind)
                if self.bad[behind]:
                    broken.append(other)
        return broken

    def key(self, thing, other):
        """The sign of the thing in its pair with another one, and the state that is noted for this pair."""
        if thing < other:
            return ("e.", self.rows[other][thing])
        return ("y.", self.rows[thing][other])

    def note(self, thing, other, state):
        """Note the state of the pair of two things."""
        self.rows[max(thing, other)][min(thing, other)] = state

    def pick_up(self, thing):
        """The thing, which was just made or lay in a pile, is held from now on."""
        for other, together in self.in_names.items():
            for (_, state), others in together.items():
                if thing in others:
                    others.remove(thing)
                    self.note(thing, other, state)
        together = {}
        for other in range(len(self.rows)):
            if other != thing and other not in self.in_names:
                together.setdefault(self.key(thing, other), []).append(other)
        self.in_names[thing] = together

    def lay_down(self, thing):
        """The thing is at rest from now on."""
        for (_, state), others in self.in_names.pop(thing).items():
            for other in others:
                self.note(thing, other, state)
        for other, together in self.in_names.items():
            together.setdefault(self.key(other, thing), []).append(thing)


def broken_in_step(table_, events, wanted):
    """The least pair that breaks the table at the first event of the wanted step at which one does; None if none does.

    It is asked only where no pair breaks the table ahead of this step, so just the things of this step matter.
    """
    led = led_by_letters(table_[0])
    indexes = {}
    for index, (step, _, thing) in enumerate(events):
        indexes.setdefault(thing, []).append(index)
        if step == wanted:
            for other in range(len(indexes)):
                pair = (min(thing, other), max(thing, other))
                if thing != other and table_[1][state_of(pair, events, indexes, led)]:
                    return pair
    return None


def state_of(pair, events, indexes, led):
    """The state to which the word of a pair leads; indexes are those of each thing's events so far."""
    elder, younger = pair
    state = 0
    for index in sorted(indexes[elder] + indexes[younger]):
        _, deed, thing = events[index]
        if thing == younger:
            state = led["y." + deed][state]
        elif deed != "new":
            state = led["e." + deed][state]
    return state
