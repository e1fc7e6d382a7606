import itertools
import random
import time
import unittest

from anytwo.letters import LETTERS
from anytwo.tables import least, table
from anytwo.tablesums import apart, implies, implies_not, joined, word_table
from expressions import breaks, led, random_rule, random_word
from helpers import odd_values, refusal
from made_tables import NONE, bad_tables, doubled, random_table, ring, row, slow_least, turned

ANY = ("any",)
STAR = ("star", ANY)
# Broken by each word with y.new.
ALL = (((0,) * 17,), (True,))
WORDS = ("and", "or", "less")
# Of random tables these letters alone lead elsewhere.
THREE = LETTERS[-3:]
SHORT = [word for size in range(6) for word in itertools.product(THREE, repeat=size)]


def meant(word, first, second):
    return {"and": first and second, "or": first or second, "less": first and not second}[word]


def line(many, letter, worse=()):
    """A table that goes on by one letter up to its last state, which is bad, and stays by all others."""
    moves = []
    for state in range(many):
        onward = [state] * 17
        onward[letter] = min(state + 1, many - 1)
        moves.append(tuple(onward))
    return (tuple(moves), tuple(state == many - 1 or state in worse for state in range(many)))


def slow_joined(one, two, word):
    """The least table beside each other, of all pairs of states, met or not."""
    pairs = list(itertools.product(range(len(one[1])), range(len(two[1]))))
    moves = tuple(
        tuple(pairs.index((one[0][first][k], two[0][second][k])) for k in range(17)) for first, second in pairs
    )
    return slow_least((moves, tuple(meant(word, one[1][first], two[1][second]) for first, second in pairs)))


class TestJoined(unittest.TestCase):
    def same(self, one, two, word):
        got = joined(one, two, word)
        self.assertEqual(least(got), got)
        for told in SHORT:
            wanted = meant(word, breaks(one, told), breaks(two, told))
            self.assertEqual(breaks(got, told), wanted)
            self.assertEqual(got[1][led(got, told)], wanted)
        return got

    def test_by_name(self):
        self.assertEqual(joined(one=NONE, two=ALL, word="or"), table(STAR))
        self.assertEqual(joined(word="less", two=NONE, one=ALL), table(STAR))

    def test_of_rules(self):
        one = table(("then", STAR, "y.end"))
        two = table(("then", "y.new", STAR))
        self.assertEqual(joined(one, two, "and"), table(("and", ("then", STAR, "y.end"), ("then", "y.new", STAR))))
        self.assertEqual(joined(one, two, "or"), table(("or", ("then", STAR, "y.end"), ("then", "y.new", STAR))))
        self.assertEqual(
            joined(one, two, "less"), table(("and", ("then", STAR, "y.end"), ("not", ("then", "y.new", STAR))))
        )

    def test_rules_at_random(self):
        source = random.Random(21)
        for _ in range(60):
            one = random_rule(source, source.randint(1, 10), THREE)
            two = random_rule(source, source.randint(1, 10), THREE)
            for word, rule in (("and", ("and", one, two)), ("or", ("or", one, two)), ("less", ("and", one, ("not", two)))):
                self.assertEqual(joined(table(one), table(two), word), table(rule))

    def test_with_none_and_with_all(self):
        source = random.Random(22)
        for _ in range(20):
            one = random_table(source, source.randint(1, 6), 0.4, 3)
            self.assertEqual(joined(one, NONE, "and"), NONE)
            self.assertEqual(joined(one, NONE, "or"), least(one))
            self.assertEqual(joined(one, NONE, "less"), least(one))
            self.assertEqual(joined(NONE, one, "less"), NONE)
            self.assertEqual(joined(one, ALL, "and"), least(one))
            self.assertEqual(joined(ALL, one, "or"), least(ALL))
            self.assertEqual(joined(one, one, "less"), NONE)
            self.assertEqual(joined(one, one, "and"), least(one))

    def test_short_words(self):
        source = random.Random(23)
        sizes = set()
        for _ in range(25):
            one = random_table(source, source.randint(1, 6), source.choice((0.2, 0.5, 0.8)), 3)
            two = random_table(source, source.randint(1, 6), source.choice((0.2, 0.5, 0.8)), 3)
            for word in WORDS:
                sizes.add(len(self.same(one, two, word)[0]))
        self.assertGreater(len(sizes), 8)

    def test_long_words(self):
        source = random.Random(24)
        for _ in range(15):
            one = random_table(source, source.randint(2, 9), 0.4)
            two = random_table(source, source.randint(2, 9), 0.4)
            for word in WORDS:
                got = joined(one, two, word)
                self.assertEqual(least(got), got)
                for _ in range(60):
                    told = random_word(source, source.randint(1, 30), LETTERS)
                    self.assertEqual(breaks(got, told), meant(word, breaks(one, told), breaks(two, told)))

    def test_beside_the_slow_way(self):
        source = random.Random(25)
        for _ in range(12):
            one = random_table(source, source.randint(1, 3), 0.5, 2)
            two = random_table(source, source.randint(1, 3), 0.5, 2)
            for word in WORDS:
                self.assertEqual(joined(one, two, word), slow_joined(one, two, word))

    def test_bad_states_that_words_without_the_making_lead_to(self):
        # e.u leads to a bad state of the first table, and back to a good one; only words with y.new count.
        one = ((row(0, e_u=1), row(1, e_u=0)), (False, True))
        two = table(("then", "y.new", STAR))
        self.same(one, two, "less")
        self.assertEqual(joined(two, one, "less")[1][0], False)
        for word in WORDS:
            self.same(one, two, word)
            self.same(two, one, word)

    def test_other_words(self):
        for word in (None, True, 0, "", "not", "And", "and ", "then", "xor", ("and",), ("and", "or", "less"), *odd_values()):
            self.assertEqual(refusal(joined, NONE, ALL, word), ("BadWord", word))

    def test_errors_in_their_order(self):
        for thing, name, what in bad_tables():
            self.assertEqual(refusal(joined, thing, ALL, "and"), (name, what))
            self.assertEqual(refusal(joined, ALL, thing, "or"), (name, what))
            self.assertEqual(refusal(joined, ALL, thing, "x"), (name, what))
            for other in (None, (((0,) * 17,) * 250, (True,) * 250)):
                self.assertEqual(refusal(joined, thing, other, "x"), (name, what))
        self.assertEqual(refusal(joined, ring(70, (0,), 5), ring(71, (0,), 6), "x"), ("BadWord", "x"))

    def test_too_many_states(self):
        for one, two in ((ring(70, (0,), 5), ring(67, (0,), 6)), (ring(15, (0,), 5), ring(14, (0,), 5))):
            for word in WORDS:
                self.assertEqual(refusal(joined, one, two, word), ("TooMany", 201))
        # Two rings that go round by the same letter are one of 10 * 9 states, twice.
        self.assertEqual(len(joined(ring(10, (0,)), ring(9, (0,)), "and")[0]), 180)
        self.assertEqual(refusal(joined, ring(101, (0,)), NONE, "or"), ("TooMany", 201))
        self.assertEqual(joined(ring(101, (0,)), NONE, "and"), NONE)

    def test_just_two_hundred(self):
        # Of a line of 199 states the last one is left and the first one joined by the making: as many as words of 198.
        one = word_table(("y.new",) + ("e.u",) * 197)
        self.assertEqual(joined(one, NONE, "or"), one)
        self.assertEqual(joined(one, one, "and"), one)
        self.assertEqual(len(one[0]), 200)
        self.assertEqual(refusal(joined, one, word_table(("e.u", "y.new")), "or"), ("TooMany", 201))
        self.assertEqual(len(joined(word_table(("y.new",) + ("e.u",) * 196), word_table(("e.u", "y.new")), "or")[0]), 200)

    def test_it_takes_no_time(self):
        source = random.Random(26)
        drawn = [random_table(source, 70, share) for share in (0.01, 0.5, 0.99)]
        drawn += [line(70, 5), line(70, 6), ring(70, (0,), 6), (random_table(source, 70, 0)[0], (True,) * 70)]
        for one, two in itertools.combinations(drawn, 2):
            begun = time.monotonic()
            refusal(joined, one, two, source.choice(WORDS))
            self.assertLess(time.monotonic() - begun, 3)

    def test_long_lines_take_no_time(self):
        source = random.Random(27)
        every = (random_table(source, 25, 0)[0], (True,) * 25)
        begun = time.monotonic()
        self.assertEqual(len(joined(line(99, 5), (every[0], every[1]), "and")[0]), 198)
        self.assertEqual(refusal(joined, line(200, 5), every, "and"), ("TooMany", 201))
        self.assertLess(time.monotonic() - begun, 5)


class TestWordTable(unittest.TestCase):
    def good(self, word):
        got = word_table(word)
        self.assertEqual(least(got), got)
        self.assertEqual(len(got[0]), len(word) + 2)
        self.assertTrue(breaks(got, word))
        self.assertEqual(sum(got[1]), 1)
        for told in SHORT:
            self.assertEqual(got[1][led(got, told)], told == word)
        for size in range(len(word)):
            self.assertFalse(breaks(got, word[:size]))
        for letter in LETTERS:
            self.assertFalse(breaks(got, word + (letter,)))
            for at in range(len(word)):
                bent = word[:at] + (letter,) + word[at + 1:]
                self.assertEqual(breaks(got, bent), bent == word)
        return got

    def test_by_name(self):
        self.assertEqual(word_table(word=("y.new",)), table("y.new"))

    def test_examples(self):
        self.assertEqual(
            word_table(("e.u", "y.new")), ((row(1, e_u=2), row(1), row(1, y_new=3), row(1)), (False, False, False, True))
        )
        # The first letter of all comes ahead of the lost state.
        self.assertEqual(
            word_table(("e.putp", "y.new")),
            ((row(2, e_putp=1), row(2, y_new=3), row(2), row(2)), (False, False, False, True)),
        )

    def test_the_making_at_its_end_in_its_middle_and_several_times(self):
        for word in (
            ("y.new",), ("y.new", "y.u"), ("e.u", "y.new"), ("e.u", "e.u", "y.new"), ("e.u", "y.new", "e.u"),
            ("y.new", "y.new"), ("y.new", "e.end", "y.new", "y.new", "y.end"), ("y.v", "y.w", "y.new"),
            ("y.new", "e.putp", "e.takep", "e.putp", "e.takep"), LETTERS, LETTERS + LETTERS,
        ):
            self.good(word)

    def test_at_random_beside_its_rule(self):
        source = random.Random(28)
        for _ in range(40):
            word = random_word(source, source.randint(0, 5), THREE)
            rule = ("nothing",)
            for letter in reversed(word):
                rule = ("then", letter, rule)
            self.assertEqual(word_table(word), table(rule))
            if "y.new" in word:
                self.good(word)

    def test_without_the_making(self):
        for word in ((), ("e.u",), ("e.u",) * 198, ("y.u",) * 199, ("y.end",) * 99999, LETTERS[:16], LETTERS[:16] * 20):
            self.assertEqual(word_table(word), NONE)

    def test_no_tuple(self):
        for thing in (None, True, False, 0, 1, "", "y.new", 10 ** 5000):
            self.assertEqual(refusal(word_table, thing), ("BadWord", 0))

    def test_no_letter(self):
        for thing in (None, True, False, 0, 16, 10 ** 5000, "", "x", "y", "new", "e.new", "y.new ", "Y.NEW", *odd_values()):
            self.assertEqual(refusal(word_table, (thing,)), ("BadWord", 0))
            self.assertEqual(refusal(word_table, ("y.new", "e.u", thing)), ("BadWord", 2))
            self.assertEqual(refusal(word_table, ("e.u", thing, "y.new", thing)), ("BadWord", 1))
            self.assertEqual(refusal(word_table, (("y.new",), thing)), ("BadWord", 0))
        self.assertEqual(refusal(word_table, ("y.new",) * 300 + ("x",)), ("BadWord", 300))
        self.assertEqual(refusal(word_table, ("e.u",) * 300 + ("x",)), ("BadWord", 300))

    def test_long_words(self):
        for word in (("y.new",) * 198, ("e.u",) * 197 + ("y.new",), ("y.new",) + ("e.u", "y.u") * 98 + ("e.v",)):
            self.assertEqual(len(word), 198)
            self.assertEqual(len(word_table(word)[0]), 200)
            self.assertTrue(breaks(word_table(word), word))
            self.assertEqual(least(word_table(word)), word_table(word))
            for letter in ("e.u", "y.new"):
                self.assertEqual(refusal(word_table, word + (letter,)), ("TooMany", 201))
                self.assertEqual(refusal(word_table, (letter,) + word), ("TooMany", 201))
        self.assertEqual(refusal(word_table, ("e.u",) * 198 + ("y.new",)), ("TooMany", 201))
        self.assertEqual(refusal(word_table, ("y.new",) * 99999), ("TooMany", 201))


def in_order(words):
    return sorted(words, key=lambda word: (len(word), [LETTERS.index(letter) for letter in word]))


def breaks_first(one, two, word):
    """Whether the word breaks two, and no beginning of it breaks one."""
    return breaks(two, word) and not any(breaks(one, word[:size]) for size in range(len(word) + 1))


class TestApart(unittest.TestCase):
    def test_by_name(self):
        self.assertEqual(apart(one=NONE, two=ALL), ("y.new",))

    def test_example(self):
        one = table("y.new")
        two = table(("then", "y.new", ANY))
        self.assertEqual(apart(one, two), ("y.new",))
        self.assertEqual(apart(two, one), ("y.new",))

    def test_broken_by_the_same_words(self):
        source = random.Random(29)
        for _ in range(40):
            one = random_table(source, source.randint(1, 8), 0.4, source.choice((2, 3, 17)))
            for two in (one, least(one), turned(source, one), doubled(source, one), doubled(source, turned(source, one))):
                self.assertIsNone(apart(one, two))
                self.assertIsNone(apart(two, one))

    def test_bad_states_without_the_making(self):
        # Both lead to bad states by e.u alone, and to none by a word with y.new.
        one = ((row(2, e_u=1), row(2), row(2)), (False, True, False))
        self.assertIsNone(apart(one, NONE))
        one = ((row(2, e_u=1), row(2), row(2)), (True, True, False))
        self.assertIsNone(apart(one, NONE))
        self.assertEqual(apart(one, ALL), ("y.new",))

    def test_by_the_order_of_letters(self):
        one = table(("or", ("then", "y.u", "y.new"), ("then", "e.w", "y.new")))
        self.assertEqual(apart(one, NONE), ("e.w", "y.new"))
        one = table(("or", ("then", "y.new", "y.putp"), ("then", "e.w", "y.new")))
        self.assertEqual(apart(one, NONE), ("e.w", "y.new"))
        one = table(("or", ("then", "y.new", "y.putp"), ("then", "y.new", "e.w")))
        self.assertEqual(apart(NONE, one), ("y.new", "e.w"))
        one = table(("or", ("then", "e.putp", ("then", "e.putp", "y.new")), ("then", "y.new", "y.w")))
        self.assertEqual(apart(NONE, one), ("y.new", "y.w"))

    def test_beside_all_short_words(self):
        source = random.Random(30)
        found = set()
        for _ in range(150):
            one = random_table(source, source.randint(1, 5), source.choice((0.1, 0.4)), 3)
            two = random_table(source, source.randint(1, 5), source.choice((0.1, 0.4)), 3)
            got = apart(one, two)
            wanted = [word for word in in_order(SHORT) if breaks(one, word) != breaks(two, word)]
            if wanted:
                self.assertEqual(got, wanted[0])
                found.add(got)
            elif got is not None:
                self.assertGreater(len(got), 5)
                self.assertNotEqual(breaks(one, got), breaks(two, got))
        self.assertGreater(len(found), 8)

    def test_beside_all_short_words_of_all_letters(self):
        source = random.Random(31)
        words = [word for size in range(4) for word in itertools.product(LETTERS, repeat=size)]
        for _ in range(15):
            one = random_table(source, source.randint(2, 6), 0.15)
            two = (one[0], tuple(is_bad != (source.random() < 0.2) for is_bad in one[1]))
            wanted = [word for word in words if breaks(one, word) != breaks(two, word)]
            self.assertEqual(apart(one, two), wanted[0] if wanted else apart(two, one))

    def test_none_exactly_if_the_least_ones_are_equal(self):
        source = random.Random(32)
        answers = set()
        for _ in range(150):
            one = random_table(source, source.randint(1, 3), 0.3, 2)
            two = random_table(source, source.randint(1, 3), 0.3, 2)
            answers.add(apart(one, two) is None)
            self.assertEqual(apart(one, two) is None, least(one) == least(two))
        self.assertEqual(len(answers), 2)

    def test_a_long_way(self):
        one = word_table(("e.u",) * 150 + ("y.new",))
        self.assertEqual(apart(one, NONE), ("e.u",) * 150 + ("y.new",))

    def test_errors_in_their_order(self):
        for function in (apart, implies, implies_not):
            for thing, name, what in bad_tables():
                self.assertEqual(refusal(function, thing, ALL), (name, what))
                self.assertEqual(refusal(function, ALL, thing), (name, what))
                for other in (None, (((0,) * 17,) * 250, (True,) * 250)):
                    self.assertEqual(refusal(function, thing, other), (name, what))
            for thing in odd_values():
                self.assertEqual(refusal(function, thing, None), ("BadTable", 0))
                self.assertEqual(refusal(function, NONE, thing), ("BadTable", 0))

    def test_they_take_no_time(self):
        source = random.Random(33)
        drawn = [random_table(source, 70, share) for share in (0, 0.01, 0.5)] + [line(70, 5), line(70, 6), ring(69, (0,))]
        for one in drawn:
            for two in drawn:
                begun = time.monotonic()
                apart(one, two)
                implies_not(one, two)
                implies(one, two)
                self.assertLess(time.monotonic() - begun, 3)


class TestImplies(unittest.TestCase):
    def test_by_name(self):
        self.assertIs(implies(one=NONE, two=ALL), False)
        self.assertEqual(implies_not(one=NONE, two=ALL), ("y.new",))

    def test_example(self):
        one = table("y.new")
        two = table(("then", "y.new", ANY))
        self.assertIs(implies(one, two), True)
        self.assertIs(implies(two, one), False)
        self.assertIsNone(implies_not(one, two))
        self.assertEqual(implies_not(two, one), ("y.new",))

    def test_a_table_implies_itself(self):
        source = random.Random(34)
        for _ in range(40):
            one = random_table(source, source.randint(1, 8), 0.4, source.choice((2, 3, 17)))
            for two in (one, least(one), turned(source, one), doubled(source, one)):
                self.assertIs(implies(one, two), True)
                self.assertIs(implies(two, one), True)
                self.assertIsNone(implies_not(one, two))

    def test_all_and_none(self):
        source = random.Random(35)
        for _ in range(20):
            one = random_table(source, source.randint(1, 8), 0.4, 3)
            self.assertIs(implies(ALL, one), True)
            self.assertIs(implies(one, NONE), True)
            self.assertIs(implies(NONE, one), least(one) == NONE)

    def test_the_beginning_may_be_the_word_itself(self):
        word = ("y.new", "e.u")
        self.assertIs(implies(word_table(word), word_table(word)), True)
        self.assertIs(implies(word_table(word[:1]), word_table(word)), True)
        self.assertIs(implies(word_table(word), word_table(word[:1])), False)

    def test_the_beginning_of_no_letters_breaks_nothing(self):
        # The beginning is bad, but the word of no letters has no y.new.
        one = ((row(1), row(1)), (True, False))
        self.assertEqual(implies_not(one, ALL), ("y.new",))
        self.assertIs(implies(one, NONE), True)

    def test_bad_states_without_the_making(self):
        # e.u breaks nothing; behind it e.u y.new does.
        one = ((row(2, e_u=1), row(2, y_new=1), row(2)), (False, True, False))
        two = word_table(("e.u", "y.new"))
        self.assertIs(implies(one, two), True)
        self.assertEqual(implies_not(NONE, one), ("e.u", "y.new"))
        # A bad state on the way that only words without y.new come to.
        one = ((row(2, e_u=1), row(2), row(2)), (False, True, False))
        self.assertEqual(implies_not(one, two), ("e.u", "y.new"))

    def test_ways_behind_a_beginning_that_breaks_one(self):
        # All longer words lead on from y.new, which breaks one; those that begin with e.u are not broken by it.
        one = table(("then", "y.new", STAR))
        two = table(("or", ("then", "y.new", "y.u"), ("then", "e.u", ("then", "y.new", "y.u"))))
        self.assertEqual(implies_not(one, two), ("e.u", "y.new", "y.u"))
        self.assertEqual(apart(one, two), ("y.new",))

    def test_beside_all_short_words(self):
        source = random.Random(36)
        answers = []
        for _ in range(200):
            one = random_table(source, source.randint(1, 5), source.choice((0.1, 0.5, 0.8)), 3)
            two = random_table(source, source.randint(1, 5), source.choice((0.1, 0.4)), 3)
            got = implies_not(one, two)
            self.assertIs(implies(one, two), got is None)
            wanted = [word for word in in_order(SHORT) if breaks_first(one, two, word)]
            if wanted:
                self.assertEqual(got, wanted[0])
            elif got is not None:
                self.assertGreater(len(got), 5)
                self.assertTrue(breaks_first(one, two, got))
            answers.append(None if got is None else len(got))
        self.assertTrue({None, 1, 2, 3} <= set(answers))

    def test_beside_all_short_words_of_all_letters(self):
        source = random.Random(37)
        words = [word for size in range(4) for word in itertools.product(LETTERS, repeat=size)]
        for _ in range(15):
            one = random_table(source, source.randint(2, 6), 0.3)
            two = random_table(source, source.randint(2, 6), 0.03)
            wanted = [word for word in words if breaks_first(one, two, word)]
            if wanted:
                self.assertEqual(implies_not(one, two), wanted[0])

    def test_rules_at_random(self):
        source = random.Random(38)
        for _ in range(40):
            one = random_rule(source, source.randint(1, 5), THREE)
            two = random_rule(source, source.randint(1, 6), THREE)
            behind = table(("and", two, ("not", ("then", ("and", one, ("then", STAR, ("then", "y.new", STAR))), STAR))))
            self.assertEqual(implies_not(table(one), table(two)), apart(behind, NONE))


if __name__ == "__main__":
    unittest.main()
