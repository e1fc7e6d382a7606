"""Tables of tables, and what the words that break them have to do with each other."""

from anytwo.errors import BadWord, TooMany
from anytwo.letters import LETTERS, MAKING
from anytwo.smallest import all_letters, least_table, met_beside
from anytwo.tablechecks import MOST_STATES, made_table

JOINS = ("and", "or", "less")


def joined(one, two, word):
    """The least table that is broken by the words that break both ("and"), either ("or"), or one alone ("less")."""
    moves, bad = made_table(one)
    other_moves, other_bad = made_table(two)
    if word not in JOINS:
        raise BadWord(word)
    met, rows = met_beside(moves, other_moves)
    return least_table(rows, [is_joined(word, bad[first], other_bad[second]) for first, second in met])


def is_joined(word, first, second):
    """Whether a state is bad that is beside two states which are bad or not."""
    if word == "and":
        return first and second
    if word == "or":
        return first or second
    return first and not second


def word_table(word):
    """The least table that is broken by just this word; by none if it has no y.new."""
    ask_word(word)
    if "y.new" not in word:
        return ((all_letters(0),), (False,))
    # A state for each beginning, and the lost one of all words that are none.
    if len(word) + 2 > MOST_STATES:
        raise TooMany(MOST_STATES + 1)
    lost = len(word) + 1
    moves = []
    for index, wanted in enumerate(word):
        moves.append(tuple([index + 1 if letter == wanted else lost for letter in LETTERS]))
    moves.extend([all_letters(lost), all_letters(lost)])
    return least_table(moves, [state == len(word) for state in range(len(moves))])


def ask_word(thing):
    """Raise BadWord unless thing is a word."""
    if not isinstance(thing, tuple):
        raise BadWord(0)
    for index, part in enumerate(thing):
        if part not in LETTERS:
            raise BadWord(index)


def apart(one, two):
    """The first word that breaks just one of the two tables; None if there is none."""
    made_table(one)
    made_table(two)
    return first_word(one, two, lambda first, second: first != second, False)


def implies(one, two):
    """Whether each word that breaks two has a beginning that breaks one."""
    return implies_not(one, two) is None


def implies_not(one, two):
    """The first word that breaks two and has no beginning that breaks one; None if there is none."""
    made_table(one)
    made_table(two)
    return first_word(one, two, lambda first, second: second and not first, True)


def first_word(one, two, wanted, stops):
    """The first word of which wanted tells so, by whether it breaks one and whether it breaks two; None if none is so.

    If stops is True, no word is looked at that has a beginning, other than itself, which breaks one.
    """
    # A meeting is a state of one, a state of two, and whether y.new was on the way; words come to them in order.
    met = [(0, 0, False)]
    ahead = {met[0]: None}
    done = 0
    while done < len(met):
        at = met[done]
        done += 1
        for number, meeting in enumerate(meetings_behind(one, two, at)):
            if meeting not in ahead:
                ahead[meeting] = (at, LETTERS[number])
                first = meeting[2] and one[1][meeting[0]]
                second = meeting[2] and two[1][meeting[1]]
                if wanted(first, second):
                    return word_to(ahead, meeting)
                if not (stops and first):
                    met.append(meeting)
    return None


def meetings_behind(one, two, at):
    """To which meetings the letters lead from one."""
    first, second, made = at
    found = []
    for number, behind in enumerate(zip(one[0][first], two[0][second])):
        found.append((*behind, made or number == MAKING))
    return found


def word_to(ahead, meeting):
    """The word by which a meeting was come to first."""
    letters = []
    while ahead[meeting] is not None:
        meeting, letter = ahead[meeting]
        letters.append(letter)
    return tuple(reversed(letters))
