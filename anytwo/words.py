"""What two things of a play go through."""

from anytwo.errors import BadThing
from anytwo.plays import play


def pair_word(program, choices, i, j):
    """The letters of all events of the elder thing i and the younger thing j, in their order."""
    events = play(program, choices)[0]
    made = len([thing for _, deed, thing in events if deed == "new"])
    if i < 0 or i >= made:
        raise BadThing(0)
    if j <= i or j >= made:
        raise BadThing(1)
    word = []
    for _, deed, thing in events:
        # The making of the elder thing is the one event without a letter.
        if thing == i and deed != "new":
            word.append("e." + deed)
        elif thing == j:
            word.append("y." + deed)
    return tuple(word)
