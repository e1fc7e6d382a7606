import itertools
import random
import time
import unittest

from anytwo.letters import LETTERS
from anytwo.rules import made_rule, word_in
from anytwo.tables import least, table
from expressions import behind_the_last, breaks, chain, led, random_rule, random_word
from helpers import deep, odd_values, refusal
from made_tables import NONE, doubled, random_table, ring, row, slow_least, slow_size, turned

ANY = ("any",)
STAR = ("star", ANY)


class TestAsking(unittest.TestCase):
    def bad(self, thing, state):
        self.assertEqual(refusal(least, thing), ("BadTable", state))

    def test_by_name(self):
        self.assertEqual(least(table_=NONE), NONE)

    def test_no_pair(self):
        good = ((0,) * 17,)
        for thing in (None, True, False, 0, 1, "", "table", (), (good,), (good, (False,), ()), good, 10 ** 5000):
            self.bad(thing, 0)
        for thing in odd_values():
            self.bad(thing, 0)

    def test_no_two_tuples(self):
        good = ((0,) * 17,)
        for thing in (None, True, False, 0, 1, "", "x"):
            self.bad((thing, (False,)), 0)
            self.bad((good, thing), 0)
            self.bad((thing, thing), 0)

    def test_of_unlike_length(self):
        good = (0,) * 17
        self.bad(((good,), ()), 0)
        self.bad(((), (False,)), 0)
        self.bad(((good, good), (False,)), 0)
        self.bad(((good,), (False, True)), 0)
        self.bad(((good,) * 201, (False,) * 200), 0)

    def test_no_states(self):
        self.bad(((), ()), 0)

    def test_rows_that_are_none(self):
        good = (0,) * 17
        for thing in (
            None, True, False, 0, "", "0" * 17, (), (0,) * 16, (0,) * 18, deep(97),
            (3,) + (0,) * 16, (0,) * 16 + (3,), (-1,) + (0,) * 16, (0,) * 16 + (10 ** 5000,), (0,) * 8 + (None,) + (0,) * 8,
            (True,) + (0,) * 16, (0,) * 16 + (False,), ("0",) + (0,) * 16, ((0,),) + (0,) * 16,
        ):
            self.bad(((thing, good, good), (False,) * 3), 0)
            self.bad(((good, thing, good), (False,) * 3), 1)
            self.bad(((good, good, thing), (True,) * 3), 2)
            self.bad(((good, thing, thing), (True,) * 3), 1)
        self.assertIsNone(refusal(least, (((2,) * 17, good, (1,) * 17), (False,) * 3)))

    def test_true_and_false_are_no_states(self):
        self.bad((((0,) * 17, (False,) * 17), (True, True)), 1)
        self.bad((((True,) * 17, (0,) * 17), (True, True)), 0)
        self.bad((((1,) * 17, (0,) * 16 + (True,)), (True, True)), 1)

    def test_bad_must_be_a_bool(self):
        good = (0,) * 17
        for thing in (0, 1, None, "", "True", (), (True,), 2):
            self.bad(((good,), (thing,)), 0)
            self.bad(((good, good, good), (True, False, thing)), 2)
            self.bad(((good, good, good), (True, thing, thing)), 1)

    def test_the_first_state_by_either(self):
        good = (0,) * 17
        self.bad(((good, (), good), (True, True, 1)), 1)
        self.bad(((good, good, ()), (True, 1, True)), 1)
        self.bad(((good, good, ()), (True, True, 1)), 2)

    def test_two_hundred_and_two_hundred_and_one(self):
        good = (0,) * 17
        self.assertEqual(least(((good,) * 200, (False,) * 200)), NONE)
        self.assertEqual(refusal(least, ((good,) * 201, (False,) * 201)), ("TooMany", 201))
        self.assertEqual(refusal(least, ((good,) * 5000, (False,) * 5000)), ("TooMany", 5000))

    def test_bad_table_ahead_of_too_many(self):
        good = (0,) * 17
        self.bad(((good,) * 300 + (None,), (False,) * 301), 300)
        self.bad(((good,) * 301, (False,) * 300 + (0,)), 300)
        self.bad((((301,) * 17,) + (good,) * 300, (False,) * 301), 0)


class TestLeast(unittest.TestCase):
    def test_one_bad_state(self):
        self.assertEqual(
            least((((0,) * 17,), (True,))), (((0,) * 16 + (1,), (1,) * 17), (False, True))
        )

    def test_none_bad(self):
        self.assertEqual(least(NONE), NONE)
        self.assertEqual(least((((1,) * 17, (2,) * 17, (0,) * 17), (False,) * 3)), NONE)

    def test_a_bad_state_that_is_not_led_to(self):
        self.assertEqual(least((((0,) * 17, (1,) * 17), (False, True))), NONE)

    def test_a_bad_state_without_the_making(self):
        # e.u leads to the bad state, and nothing leads on from there: no word with y.new comes to it.
        told = ((row(1, e_u=2), row(1), row(1)), (False, False, True))
        self.assertEqual(least(told), NONE)
        # With a y.new on the way out of it the word that breaks has passed a bad state on its way.
        told = ((row(1, e_u=2), row(1), row(1, y_new=2)), (False, False, True))
        self.assertEqual(
            least(told),
            ((row(1, e_u=2), row(1), row(1, y_new=3), row(1, y_new=3)), (False, False, False, True)),
        )

    def test_out_of_order(self):
        first = ((row(2, y_new=1), row(2), row(2)), (False, True, False))
        second = ((row(1, y_new=2), row(1), row(1)), (False, False, True))
        self.assertEqual(least(first), second)
        self.assertEqual(least(second), second)
        # 0 is the beginning, and stays so: the third table begins at its bad state.
        third = ((row(1), row(1), row(1, y_new=0)), (True, False, False))
        self.assertEqual(least(third), NONE)

    def test_alike_states(self):
        told = ((row(1, y_new=3), row(2), row(1), row(1), row(3)), (False, False, False, True, True))
        self.assertEqual(least(told), ((row(1, y_new=2), row(1), row(1)), (False, False, True)))

    def test_y_new_at_whatever_place(self):
        # y.u leads to the bad state, and all else out of it; y.new may stand anywhere ahead.
        told = ((row(0, y_u=1), row(0, y_u=1)), (False, True))
        self.assertEqual(
            least(told), ((row(0, y_new=1), row(1, y_u=2), row(1, y_u=2)), (False, False, True))
        )

    def test_a_least_table_comes_back(self):
        source = random.Random(7)
        for _ in range(60):
            one = least(random_table(source, source.randint(1, 12), 0.3, source.randint(1, 4)))
            self.assertEqual(least(one), one)

    def test_beside_the_slow_way(self):
        source = random.Random(8)
        sizes = set()
        for _ in range(120):
            many = source.randint(1, 7)
            told = random_table(source, many, source.choice((0.1, 0.3, 0.5, 0.9)), source.choice((1, 2, 3, 17)))
            got = least(told)
            sizes.add(len(got[0]))
            self.assertEqual(got, slow_least(told))
        self.assertGreater(len(sizes), 6)

    def test_the_same_words_break_it(self):
        source = random.Random(9)
        words = [word for size in range(5) for word in itertools.product(("e.u", "y.w", "y.new"), repeat=size)]
        for _ in range(40):
            told = random_table(source, source.randint(1, 9), 0.4)
            got = least(told)
            for word in words:
                self.assertEqual(breaks(got, word), breaks(told, word))
                self.assertEqual(got[1][led(got, word)], breaks(told, word))

    def test_two_tables_of_the_same_words(self):
        source = random.Random(10)
        for _ in range(40):
            told = random_table(source, source.randint(2, 8), 0.4, 3)
            self.assertEqual(least(turned(source, told)), least(told))
            self.assertEqual(least(doubled(source, told)), least(told))

    def test_beside_the_slow_way_of_many_states(self):
        source = random.Random(15)
        refused = 0
        for _ in range(40):
            many = source.randint(20, 200)
            told = random_table(source, many, source.choice((0.02, 0.5)), source.choice((2, 3, 17)))
            size = len(slow_size(told))
            got = refusal(least, told)
            refused += got is not None
            self.assertEqual(got, ("TooMany", 201) if size > 200 else None)
            if got is None:
                self.assertEqual(len(least(told)[0]), size)
        self.assertTrue(5 < refused < 35)

    def test_kinds_of_values(self):
        moves, bad = least(ring(5, (2,)))
        self.assertIs(moves.__class__, tuple)
        self.assertIs(bad.__class__, tuple)
        for onward, is_bad in zip(moves, bad):
            self.assertIs(onward.__class__, tuple)
            self.assertTrue(all(state.__class__ is int for state in onward))
            self.assertIs(is_bad.__class__, bool)

    def test_more_than_two_hundred(self):
        # A ring doubles, once without and once with y.new behind it.
        self.assertEqual(len(least(ring(100, (3,)))[0]), 200)
        self.assertEqual(refusal(least, ring(101, (3,))), ("TooMany", 201))
        self.assertEqual(refusal(least, ring(200, (3,))), ("TooMany", 201))
        self.assertEqual(len(least(ring(200, range(0, 200, 2)))[0]), 4)
        # One state more, in front of the ring: from there y.new leads to where it leads from the ring's first state.
        moves, bad = ring(100, (3,))
        front = tuple(onward + 1 for onward in moves[0][:16]) + (101,)
        moved = tuple(tuple(onward + 1 for onward in one) for one in moves) + ((101,) * 17,)
        told = ((front,) + moved, (False,) + bad + (False,))
        self.assertEqual(len(slow_size(told)), 202)
        self.assertEqual(refusal(least, told), ("TooMany", 201))

    def test_just_two_hundred_and_one(self):
        moves, bad = ring(100, (3,))
        front = tuple(onward + 1 for onward in moves[0])
        moved = tuple(tuple(onward + 1 for onward in one) for one in moves)
        # The front state is as the ring's first one, but that putting, taking and ending lead to the second one.
        told = (((2,) * 5 + front[5:], *moved), (False,) + bad)
        self.assertEqual(len(slow_size(told)), 201)
        self.assertEqual(refusal(least, told), ("TooMany", 201))

    def test_a_large_table_takes_no_time(self):
        source = random.Random(11)
        line = tuple((min(state + 1, 199),) * 17 for state in range(200))
        for told in (
            ring(100, (3,)), ring(200, (0, 100)), random_table(source, 200, 0.5), random_table(source, 200, 0.01, 2),
            (line, (False,) * 199 + (True,)), (line, (True,) + (False,) * 199), (line, (False,) * 90 + (True,) + (False,) * 109),
        ):
            begun = time.monotonic()
            refusal(least, told)
            self.assertLess(time.monotonic() - begun, 10)


class TestTable(unittest.TestCase):
    def test_by_name(self):
        self.assertEqual(table(rule="e.u"), NONE)

    def test_examples(self):
        self.assertEqual(
            table("y.new"), (((1,) * 16 + (2,), (1,) * 17, (1,) * 17), (False, False, True))
        )
        behind = (1,) * 12 + (2,) + (1,) * 4
        self.assertEqual(
            table(("then", STAR, "y.end")), (((0,) * 16 + (1,), behind, behind), (False, False, True))
        )
        self.assertEqual(table("e.u"), NONE)

    def test_letters(self):
        for letter in LETTERS[:16]:
            self.assertEqual(table(letter), NONE)

    def test_any(self):
        self.assertEqual(table(ANY), table("y.new"))

    def test_nothing(self):
        self.assertEqual(table(("nothing",)), NONE)
        self.assertEqual(table(("then", "y.new", ("nothing",))), table("y.new"))
        self.assertEqual(table(("then", ("nothing",), "y.new")), table("y.new"))

    def test_then(self):
        self.assertEqual(
            table(("then", "e.u", "y.new")),
            ((row(1, e_u=2), row(1), row(1, y_new=3), row(1)), (False, False, False, True)),
        )
        self.assertEqual(
            table(("then", "y.new", "e.u")),
            ((row(1, y_new=2), row(1), row(1, e_u=3), row(1)), (False, False, False, True)),
        )

    def test_or(self):
        self.assertEqual(table(("or", "e.u", "y.new")), table("y.new"))
        self.assertEqual(table(("or", "e.u", "y.u")), NONE)
        self.assertEqual(
            table(("or", "y.new", ("then", "e.u", "y.new"))),
            ((row(1, e_u=2, y_new=3), row(1), row(1, y_new=3), row(1)), (False, False, False, True)),
        )

    def test_and(self):
        self.assertEqual(table(("and", ANY, "y.new")), table("y.new"))
        self.assertEqual(table(("and", "y.new", "e.u")), NONE)

    def test_star(self):
        self.assertEqual(table(STAR), (((0,) * 16 + (1,), (1,) * 17), (False, True)))
        self.assertEqual(
            table(("star", "y.new")), ((row(1, y_new=2), row(1), row(1, y_new=2)), (False, False, True))
        )
        self.assertEqual(
            table(("star", ("then", "e.u", "y.new"))),
            ((row(1, e_u=2), row(1), row(1, y_new=3), row(1, e_u=2)), (False, False, False, True)),
        )

    def test_not(self):
        self.assertEqual(table(("not", ("not", "y.new"))), table("y.new"))
        self.assertEqual(table(("not", STAR)), NONE)
        self.assertEqual(table(("not", "e.u")), table(STAR))
        self.assertEqual(
            table(("not", "y.new")), ((row(1, y_new=2), row(1, y_new=3), row(3), row(3)), (False, False, False, True))
        )

    def test_errors_of_the_rule(self):
        self.assertEqual(refusal(table, None), ("BadRule", 0))
        self.assertEqual(refusal(table, ("then", "y.new", "x")), ("BadRule", 0))
        self.assertEqual(refusal(table, chain("or", ["y.new"] * 13)), ("TooMany", 25))
        for thing in odd_values():
            self.assertEqual(refusal(table, thing), refusal(made_rule, thing))

    def test_a_part_of_too_many_states(self):
        large = behind_the_last("e.u", 7)
        self.assertEqual(refusal(table, large), ("TooMany", 201))
        self.assertEqual(len(table(behind_the_last("e.u", 6))[0]), 192)

    def test_a_part_of_too_many_states_in_a_whole_of_few(self):
        large = behind_the_last("e.u", 7)
        for rule in (
            ("and", large, ("nothing",)), ("and", ("nothing",), large), ("or", STAR, large), ("or", large, STAR),
            ("then", large, ("not", STAR)), ("then", ("not", STAR), large), ("then", STAR, large), ("not", large),
            ("star", large), ("and", "e.u", large), ("star", ("or", ANY, large)),
        ):
            self.assertEqual(refusal(table, rule), ("TooMany", 201))

    def test_the_least_table_of_too_many_states(self):
        # No part wants more than 192 states, but the least table would have 320.
        rule = ("then", behind_the_last("e.u", 6), ("or", "y.new", "y.u"))
        self.assertEqual(refusal(table, rule), ("TooMany", 201))
        self.assertEqual(len(table(("then", behind_the_last("e.u", 5), ("or", "y.new", "y.u")))[0]), 160)
        # As a part of another rule it is let.
        self.assertEqual(table(("and", ("nothing",), rule)), NONE)
        self.assertEqual(table(("and", rule, "y.new")), NONE)

    def test_errors_of_the_rule_ahead_of_too_many_states(self):
        large = behind_the_last("e.u", 7)
        self.assertEqual(refusal(table, ("or", large, "x")), ("BadRule", 0))
        self.assertEqual(refusal(table, ("or", large, ("star",))), ("BadRule", 0))
        self.assertEqual(refusal(table, ("or", large, chain("or", ["e.u"] * 4))), ("TooMany", 25))

    def test_short_words_beside_word_in(self):
        source = random.Random(12)
        letters = ("e.u", "y.u", "y.new")
        words = [word for size in range(5) for word in itertools.product(letters, repeat=size)]
        for _ in range(150):
            rule = random_rule(source, source.randint(1, 24), letters)
            got = table(rule)
            self.assertEqual(least(got), got)
            for word in words:
                self.assertEqual(got[1][led(got, word)], word_in(rule, word) and "y.new" in word, (rule, word))

    def test_longer_words_beside_word_in(self):
        source = random.Random(13)
        broken = 0
        for _ in range(200):
            letters = source.sample(LETTERS[:16], 2) + ["y.new"]
            rule = random_rule(source, source.randint(5, 24), letters)
            got = table(rule)
            for _ in range(20):
                word = random_word(source, source.randint(1, 25), letters)
                self.assertEqual(got[1][led(got, word)], word_in(rule, word) and "y.new" in word, (rule, word))
                broken += breaks(got, word)
        self.assertGreater(broken, 200)

    def test_beside_the_slow_way(self):
        source = random.Random(14)
        for _ in range(60):
            rule = random_rule(source, source.randint(3, 16), ("e.u", "y.new"))
            got = table(rule)
            if len(got[0]) < 15:
                self.assertEqual(slow_least(got), got)

    def test_two_rules_of_the_same_words(self):
        one = ("then", STAR, ("then", "y.new", STAR))
        self.assertEqual(table(one), table(STAR))
        self.assertEqual(
            table(("not", ("or", ("not", "y.new"), ("not", ANY)))), table(("and", "y.new", ANY))
        )
        self.assertEqual(table(("star", ("star", one))), table(("star", one)))

    def test_parts_that_want_thousands_of_sets(self):
        begun = time.monotonic()
        self.assertEqual(refusal(table, behind_the_last("e.u", 10)), ("TooMany", 201))
        rule = ("then", ANY, ("then", ("then", ANY, "e.u"), ("star", ("star", ("then", ("then", ("then", ANY, ("then", (
            "or", ANY, "e.u"), ANY)), ("or", ("then", "e.u", "e.u"), ANY)), "e.u")))))
        got = table(rule)
        self.assertEqual(least(got), got)
        self.assertLess(time.monotonic() - begun, 20)

    def test_a_part_of_sets_without_end_is_refused(self):
        four = ("then", ("then", ANY, ("then", ANY, ANY)), ANY)
        part = ("then", ("then", ("or", "e.u", ANY), ("then", four, ANY)), ("or", ("and", ("not", "e.u"), (
            "then", ANY, ANY)), "e.u"))
        begun = time.monotonic()
        self.assertEqual(refusal(table, ("star", ("star", part))), ("TooMany", 201))
        self.assertLess(time.monotonic() - begun, 60)


if __name__ == "__main__":
    unittest.main()
