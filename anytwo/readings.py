"""Reading words letter by letter, to find out whether an expression describes them.

Of each part of an expression one keeps a state: all that matters of the letters it has read. States are
numbered as they are met, since only few of all possible ones are met by one word.
"""


class Reading:
    """The parts of one rule, each with the states that were met so far."""

    def __init__(self, rule):
        # Of each part its word (a letter for itself) and the numbers of the parts within it.
        self.parts = []
        self.begins = []
        # A state is known by its form: its part's number, and what the part's word makes of the rest.
        self.forms = []
        self.numbers = {}
        self.full = []
        self.led = {}
        self.whole = self.add_part(rule)

    def is_one(self, word):
        """Whether the word is one of the rule."""
        state = self.begins[self.whole]
        for letter in word:
            state = self.behind(state, letter)
        return self.full[state]

    def add_part(self, part):
        """Add a part behind those within it; return its number."""
        if isinstance(part, str):
            row = (part,)
        else:
            inner = [self.add_part(within) for within in part[1:]]
            row = (part[0], *inner)
        number = len(self.parts)
        self.parts.append(row)
        self.begins.append(self.begun(number, row))
        return number

    def begun(self, number, row):
        """The state of a part that has read nothing."""
        inner = [self.begins[within] for within in row[1:]]
        if row[0] == "then":
            return self.then_state(number, inner[0], [])
        if row[0] == "star":
            return self.numbered((number, 1, inner[0]))
        if inner:
            return self.numbered((number, *inner))
        return self.numbered((number, 0))

    def numbered(self, form):
        """The number of the state of this form."""
        if form not in self.numbers:
            self.numbers[form] = len(self.forms)
            self.forms.append(form)
            self.full.append(self.is_full(form))
        return self.numbers[form]

    def is_full(self, form):
        """Whether the letters read up to a state of this form are a word of its part."""
        word = self.parts[form[0]][0]
        if word in ("nothing", "star"):
            return form[1] == (1 if word == "star" else 0)
        if word == "not":
            return not self.full[form[1]]
        if word == "or":
            return self.full[form[1]] or self.full[form[2]]
        if word == "and":
            return self.full[form[1]] and self.full[form[2]]
        if word == "then":
            return any([self.full[state] for state in form[2:]])
        return form[1] == 1

    def behind(self, state, letter):
        """The state to which the letter leads."""
        if (state, letter) not in self.led:
            self.led[(state, letter)] = self.led_to(self.forms[state], letter)
        return self.led[(state, letter)]

    def led_to(self, form, letter):
        """The state to which the letter leads from the state of this form."""
        number = form[0]
        word = self.parts[number][0]
        if word == "then":
            return self.then_state(number, self.behind(form[1], letter), self.all_behind(form[2:], letter))
        if word == "star":
            return self.star_state(number, self.all_behind(form[2:], letter))
        if word in ("or", "and", "not"):
            return self.numbered((number, *self.all_behind(form[1:], letter)))
        # A letter, any and nothing count: 0 is nothing read, 1 the one letter that is let, 2 all else.
        if form[1] == 0 and word in (letter, "any"):
            return self.numbered((number, 1))
        return self.numbered((number, 2))

    def all_behind(self, states, letter):
        """The states to which the letter leads from these."""
        return [self.behind(state, letter) for state in states]

    def then_state(self, number, first, seconds):
        """The state of a then: that of its first part, and those of its second one for each beginning of it."""
        if self.full[first]:
            seconds = seconds + [self.begins[self.parts[number][2]]]
        return self.numbered((number, first, *sorted(set(seconds))))

    def star_state(self, number, inner):
        """The state of a star: whether a round may end here, and its part's states for each beginning of one."""
        ended = 0
        if any([self.full[state] for state in inner]):
            ended = 1
            inner = inner + [self.begins[self.parts[number][1]]]
        return self.numbered((number, ended, *sorted(set(inner))))
