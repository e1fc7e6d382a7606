"""The errors of the package. Each keeps in `what` the thing that is refused, or where it stands."""


class Refused(ValueError):
    """Whatever the package refuses."""

    def __init__(self, what):
        self.what = what


class BadText(Refused):
    """A text that is none of a program, a table or a rule."""


class BadProgram(Refused):
    """A thing that is no program; `what` is the place of the bad statement."""


class BadRule(Refused):
    """A thing that is no rule."""


class BadWord(Refused):
    """A thing that is no word."""


class BadChoices(Refused):
    """Choices of which the one at the index `what` does not fit the play."""


class BadThing(Refused):
    """A thing of a play, or where one is, that is none."""


class BadPlace(Refused):
    """A place that is not one of the places asked for."""


class BadCode(Refused):
    """Code whose row `what` is none."""


class BadTable(Refused):
    """A thing that is no table; `what` is the first bad state."""


class Kept(Refused):
    """A table that no play breaks, where a break is asked for."""


class Broken(Refused):
    """A table that some play breaks, where a paper for yes is asked for."""


class TooMany(Refused):
    """More of something than the limits let."""


class NothingToUndo(Refused):
    """A book in which no deed stands."""


class NothingToRedo(Refused):
    """A book in which no undone deed is left."""
