import random
import time
import unittest

from anytwo.code import compiled
from anytwo.errors import Refused
from anytwo.machine import run, watch
from anytwo.plays import play
from anytwo.tables import table
from anytwo.tablesums import word_table
from anytwo.verdicts import breaks_at
from expressions import random_rule
from helpers import deep, odd_values, refusal
from made_code import SlowRun, random_code, random_row, slow_run
from made_programs import EXAMPLE, EXAMPLE_A, LARGE, bounds_at, lively_program, met_words, plays_of, random_program, slow_break
from made_programs import words_of
from made_tables import NONE, bad_tables, random_table, ring

NEW_A = ("new", "a")
NEW_B = ("new", "b")
PUT = ("put", "a", "p")
U = ("do", "u", "a")
V = ("do", "v", "a")
STOP = ("stop",)
STAR = ("star", ("any",))
# Broken by each word with y.new.
ALL = (((0,) * 17,), (True,))
NEW = table("y.new")
NOTHING = ((), 0, (None,) * 4, ((), ()))
# 200 things are made and lie in p, but for those that are taken then.
TWO_HUNDRED = (("loop", 4), NEW_A, PUT, ("jump", 0))


def told_or_refused(function, *args):
    """What the call returns, or the name and the what of its error."""
    try:
        return function(*args)
    except Refused as error:
        return (error.__class__.__name__, error.what)


def ends_with(*letters):
    rule = STAR
    for letter in letters:
        rule = ("then", rule, letter)
    return table(rule)


def bad_rows(many):
    """Rows that are none in code of so many rows, whatever stands elsewhere."""
    found = [
        None, True, False, 0, 1, "", "stop", "new", (), ("stop", 0), ("stop", ()), ((),), (("stop",),), deep(90), deep(90, "a"),
        ("new",), ("new", "a", "b"), ("new", "e"), ("new", "p"), ("new", True), ("new", ("a",)), ("new", ""), ("New", "a"),
        ("put", "a"), ("put", "p", "a"), ("put", "a", "r"), ("put", "a", "p", "p"), ("put", "a", "b"), ("put", None, "p"),
        ("take", "a", "p"), ("take", "p"), ("take", "p", "p"), ("take", "r", "a"), ("take", "p", "a", 0), ("take", True, "a"),
        ("move", "a"), ("move", "a", "e"), ("move", "p", "a"), ("move", "a", "b", "c"), ("end",), ("end", "q"), ("end", "a", "a"),
        ("do", "a"), ("do", "a", "u"), ("do", "x", "a"), ("do", "u", "p"), ("do", "u", "a", "a"), ("u", "a"), ("do", 0, "a"),
    ]
    for word in ("loop", "either", "jump"):
        found += [
            (word,), (word, -1), (word, many), (word, many + 1), (word, 10 ** 5000), (word, True), (word, False), (word, None),
            (word, "0"), (word, ()), (word, (0,)), (word, (), ()), (word, 0, 0), (word, 0, 1), (word, (U,)), (word, deep(90)),
        ]
    return found


class TestCodes(unittest.TestCase):
    """Which code is refused; the same by run and by watch."""

    def refused(self, code, what):
        self.assertEqual(refusal(run, code, ()), ("BadCode", what))
        self.assertEqual(refusal(watch, code, NONE, ()), ("BadCode", what))

    def test_no_rows(self):
        self.refused((), 0)

    def test_no_stop_at_the_end(self):
        self.refused((U,), 1)
        self.refused((U,) * 7, 7)
        self.refused((("jump", 0),), 1)
        self.refused((("loop", 0), ("either", 1)), 2)

    def test_bad_rows(self):
        for at in range(4):
            for row in bad_rows(5):
                code = [NEW_A, U, ("jump", 4), U, STOP]
                code[at] = row
                self.refused(tuple(code), at)
        for row in bad_rows(1):
            self.refused((row,), 0)
        for row in bad_rows(3):
            self.refused((U, U, row), 2)

    def test_odd_values_as_rows(self):
        for thing in odd_values():
            if not (isinstance(thing, tuple) and len(thing) > 1000):
                self.refused((U, thing, STOP), 1)
                self.refused((STOP, thing), 0)

    def test_a_stop_that_is_not_the_last_row(self):
        self.refused((STOP, STOP), 0)
        self.refused((U, STOP, U, STOP), 1)
        self.refused((U, U, STOP, U), 2)
        # Also where no run comes to it.
        self.refused((("jump", 2), STOP, STOP), 1)

    def test_rows_that_no_run_comes_to(self):
        for row in bad_rows(4):
            self.refused((("jump", 3), U, row, STOP), 2)
            self.refused((("loop", 3), row, ("jump", 0), STOP), 1)

    def test_the_first_bad_row(self):
        self.refused((U, None, STOP, ("jump", 9), U), 1)
        self.refused((U, STOP, None, U), 1)
        self.refused((U, U, ("jump", 4), None), 2)
        self.refused((U, U, ("jump", 3), None), 3)
        # That the last row is no stop comes behind all bad rows.
        self.refused((U, U, U, ("new", "e")), 3)
        self.refused((U,) * 99 + (("loop", 100),), 99)

    def test_ahead_of_choices_and_tables(self):
        for code, what in (((), 0), ((U,), 1), ((None, STOP), 0), ((("loop", 1), STOP, STOP), 1)):
            for choices in ((), (5,), (0,) * 3001):
                self.assertEqual(refusal(run, code, choices), ("BadCode", what))
                for told in (NONE, None, ((), ())):
                    self.assertEqual(refusal(watch, code, told, choices), ("BadCode", what))

    def test_rows_that_lead_anywhere_are_let(self):
        for word in ("loop", "either", "jump"):
            for at in range(3):
                code = (U, (word, at), STOP)
                if (word, at) not in (("jump", 0), ("jump", 1)):
                    self.assertEqual(run(code, ()), (NOTHING[0], 1) + NOTHING[2:])
                else:
                    self.assertEqual(refusal(run, code, ()), ("TooMany", 101))


class TestRun(unittest.TestCase):
    def good(self, code, choices):
        """What run returns or raises, beside the slow way."""
        got = told_or_refused(run, code, choices)
        self.assertEqual(got, slow_run(code, choices)[0])
        return got

    def test_by_name(self):
        self.assertEqual(run(code=(STOP,), choices=()), NOTHING)

    def test_example(self):
        code = EXAMPLE + (STOP,)
        events = ((1, "new", 0), (2, "new", 1), (3, "u", 0), (4, "end", 1))
        self.assertEqual(self.good(code, ()), (events, 4, (0, None, None, None), ((), ())))

    def test_kinds_of_values(self):
        got = run(compiled(EXAMPLE_A), (1, 1))
        self.assertEqual([one.__class__ for one in got], [tuple, int, tuple, tuple])
        self.assertEqual({one.__class__ for one in got[0] + got[3]}, {tuple})

    def test_ways(self):
        code = (("loop", 3), U, ("jump", 0), ("either", 6), NEW_A, ("jump", 7), NEW_B, STOP)
        self.assertEqual(self.good(code, (0, 0))[2], (0, None, None, None))
        self.assertEqual(self.good(code, (0, 1))[2], (None, 0, None, None))
        self.assertEqual(self.good(code, (1, 1, 0, 0))[1], 3)
        for choices, index in (((2,), 0), ((-1,), 0), ((0, 2), 1), ((1, 0, -3), 2), ((0, 0, 0), 2), ((0, 1, 7, 8), 2)):
            self.assertEqual(self.good(code, choices), ("BadChoices", index))

    def test_takes(self):
        code = (NEW_A, NEW_B, ("put", "b", "p"), PUT, ("take", "p", "c"), ("take", "p", "c"), ("take", "p", "d"), STOP)
        self.assertEqual(self.good(code, (1,))[2:], ((None, None, 0, None), ((1,), ())))
        self.assertEqual(self.good(code, (2, 1, 0))[2:], ((None, None, 0, None), ((), ())))
        self.assertEqual(self.good(code, (0, 2, 1))[2:], ((None, None, 1, 0), ((), ())))
        self.assertEqual(self.good(code, (3,)), ("BadChoices", 0))
        self.assertEqual(self.good(code, (1, 2)), ("BadChoices", 1))
        self.assertEqual(self.good(code, (1, 1, 1)), ("BadChoices", 2))
        # What the name holds does not end where the choice is not there, or is bad.
        self.assertEqual(self.good(code, (1,))[0][-1], (5, "takep", 0))

    def test_a_row_that_wants_a_choice_ends_the_run(self):
        for row in (("loop", 2), ("either", 2), ("take", "p", "a")):
            code = (NEW_A, row, STOP)
            self.assertEqual(self.good(code, ()), (((1, "new", 0),), 1, (0, None, None, None), ((), ())))

    def test_choices_that_are_left(self):
        self.assertEqual(self.good((STOP,), (0,)), ("BadChoices", 0))
        self.assertEqual(self.good((NEW_A, STOP), (0, 0, 0)), ("BadChoices", 0))
        self.assertEqual(self.good((("loop", 1), STOP), (0, 1)), ("BadChoices", 1))
        self.assertEqual(self.good((("loop", 1), STOP), (1,)), NOTHING)

    def test_loops_that_lead_to_themselves(self):
        self.assertEqual(self.good((("loop", 0), STOP), (0,) * 3000), NOTHING)
        self.assertEqual(self.good((("either", 0), STOP), (1,) * 2999 + (0,)), NOTHING)
        self.assertEqual(self.good((("either", 0), STOP), (1,) * 3000), NOTHING)
        self.assertEqual(self.good((("loop", 0), STOP), (0,) * 500 + (2,)), ("BadChoices", 500))

    def test_jumps(self):
        self.assertEqual(self.good((("jump", 2), NEW_A, ("jump", 4), NEW_B, STOP), ()), NOTHING)
        code = (("jump", 3), NEW_A, ("jump", 5), NEW_B, ("jump", 1), STOP)
        self.assertEqual(self.good(code, ())[0], ((1, "new", 0), (2, "new", 1)))
        self.assertEqual(self.good((("jump", 1), ("jump", 2), STOP), ()), NOTHING)

    def test_jumps_loops_and_eithers_are_no_steps(self):
        code = (("jump", 1), ("either", 2), ("loop", 3), NEW_A, STOP)
        self.assertEqual(self.good(code, (0, 0))[:2], (((1, "new", 0),), 1))

    def test_too_many_choices(self):
        for code in ((STOP,), (("loop", 0), STOP), (("jump", 0), STOP)):
            self.assertEqual(self.good(code, (0,) * 3001), ("TooMany", 3001))
            self.assertEqual(self.good(code, (7,) * 5000), ("TooMany", 5000))
        self.assertEqual(self.good((STOP,), (0,) * 3000), ("BadChoices", 0))

    def test_a_hundred_rows_without_a_choice(self):
        for row in (U, NEW_A, ("move", "a", "a"), ("end", "b"), PUT):
            self.assertEqual(self.good((row,) * 100 + (STOP,), ())[1], 100)
            self.assertEqual(self.good((row,) * 101 + (STOP,), ()), ("TooMany", 101))
            for chooser, choice in ((("loop", 0), 1), (("either", 0), 0), (("take", "q", "d"), 0)):
                code = (row,) * 100 + (chooser,) + (row,) * 100 + (STOP,)
                self.assertEqual(self.good(code, ())[1], 100)
                self.assertEqual(self.good(code, (choice,))[1], 201 if chooser[0] == "take" else 200)
                self.assertEqual(self.good(code, (9,)), ("BadChoices", 0))
                self.assertEqual(self.good((row,) + code, (choice,)), ("TooMany", 101))
                code = (row,) * 100 + (chooser,) + (row,) * 101 + (STOP,)
                self.assertEqual(self.good(code, (choice,)), ("TooMany", 101))
                self.assertEqual(self.good(code, ())[1], 100)

    def test_jumps_count_among_them(self):
        code = tuple(("jump", at + 1) for at in range(100)) + (STOP,)
        self.assertEqual(self.good(code, ()), NOTHING)
        self.assertEqual(self.good((("jump", 1),) + tuple(("jump", at + 2) for at in range(100)) + (STOP,), ()), ("TooMany", 101))
        self.assertEqual(self.good((("jump", 0), STOP), ()), ("TooMany", 101))
        self.assertEqual(self.good((("jump", 1), ("jump", 0), STOP), ()), ("TooMany", 101))
        # A loop's row takes a choice, so the count begins anew.
        code = (("loop", 100),) + (U,) * 98 + (("jump", 0), STOP)
        self.assertEqual(self.good(code, (1,) * 50 + (0,))[1], 50 * 98)
        code = (("loop", 103),) + (U,) * 99 + (("jump", 101), ("jump", 0), U, STOP)
        self.assertEqual(self.good(code, (1, 0)), ("TooMany", 101))
        self.assertEqual(self.good(code, (0,)), NOTHING)

    def test_the_stop_behind_a_hundred_rows(self):
        self.assertEqual(self.good((U,) * 100 + (STOP,), (0,)), ("BadChoices", 0))
        self.assertEqual(self.good((U,) * 101 + (STOP,), (0,)), ("TooMany", 101))

    def test_the_count_comes_ahead_of_the_201st_thing(self):
        code = TWO_HUNDRED + (NEW_B,) * 102 + (STOP,)
        self.assertEqual(self.good(code, (1,) * 100 + (0,)), ("TooMany", 101))
        self.assertEqual(self.good(code, (1,) * 101 + (0,)), ("TooMany", 201))
        code = TWO_HUNDRED + (U,) * 100 + (NEW_B, STOP)
        self.assertEqual(self.good(code, (1,) * 200 + (0,)), ("TooMany", 101))
        code = TWO_HUNDRED + (U,) * 99 + (NEW_B, STOP)
        self.assertEqual(self.good(code, (1,) * 200 + (0,)), ("TooMany", 201))
        self.assertEqual(self.good(code, (1,) * 199 + (0,))[1], 398 + 100)

    def test_the_201st_thing(self):
        code = (("loop", 3), NEW_A, ("jump", 0), STOP)
        self.assertEqual(len(self.good(code, (1,) * 200 + (0,))[0]), 399)
        self.assertEqual(self.good(code, (1,) * 200), self.good(code, (1,) * 200 + (0,)))
        self.assertEqual(self.good(code, (1,) * 201), ("TooMany", 201))
        self.assertEqual(self.good(code, (1,) * 201 + (9,)), ("TooMany", 201))
        self.assertEqual(self.good(code, (1,) * 200 + (9,)), ("BadChoices", 200))

    def test_code_that_leads_anywhere(self):
        source = random.Random(111)
        names = {}
        for _ in range(3000):
            code = random_code(source, source.randint(1, 14))
            choices = tuple(source.choice((0, 1, 1, 0, 2)) for _ in range(source.choice((0, 1, 3, 8, 20))))
            got = self.good(code, choices)
            kind = got[0] if isinstance(got[0], str) else len(got[0]) > 5
            names[kind] = names.get(kind, 0) + 1
        self.assertEqual(set(names), {"BadChoices", "TooMany", False, True})
        self.assertGreater(min(names.values()), 10)

    def test_good_choices_of_code_that_leads_anywhere(self):
        source = random.Random(112)
        steps = 0
        for _ in range(500):
            code = random_code(source, source.randint(3, 25))
            choices = ()
            got = self.good(code, choices)
            while not isinstance(got[0], str) and len(choices) < 30:
                bound = source.choice((0, 1, len(got[3][0]), len(got[3][1])))
                choices += (source.randint(0, bound),)
                got = self.good(code, choices)
                steps += not isinstance(got[0], str) and got[1]
        self.assertGreater(steps, 10000)


class TestCompiledPrograms(unittest.TestCase):
    def good(self, program, choices):
        """run of the compiled program returns what play returns, but for the place, and raises the same."""
        told = told_or_refused(play, program, choices)
        expected = told if isinstance(told[0], str) else told[:2] + told[3:]
        self.assertEqual(told_or_refused(run, compiled(program), choices), expected)
        return told

    def test_all_short_plays(self):
        source = random.Random(113)
        for _ in range(100):
            program = random_program(source, source.randint(0, 12), 4, ("a", "b", "c"))
            for choices, _ in plays_of(program, 4):
                self.good(program, choices)

    def test_drawn_choices(self):
        source = random.Random(114)
        refused = 0
        for _ in range(300):
            program = lively_program(source, source.randint(0, 25), 5, ("a", "b", "c", "d"))
            for many in (0, 1, 5, 30):
                choices = tuple(source.choice((0, 1, 1, 1, 2, -1)) for _ in range(many))
                refused += isinstance(self.good(program, choices)[0], str)
        self.assertGreater(refused, 200)

    def test_long_plays(self):
        source = random.Random(115)
        for program in (LARGE, EXAMPLE_A, (("loop", (NEW_A, PUT, ("take", "p", "b"), ("put", "b", "q"), ("take", "q", "c"), PUT)),)):
            choices = ()
            for _ in range(150):
                told = self.good(program, choices)
                if isinstance(told[0], str) or bounds_at(program, told) is None:
                    break
                choices += (source.randint(0, bounds_at(program, told)),)
        self.good((("loop", (NEW_A,)),), (1,) * 200)
        self.assertEqual(self.good((("loop", (NEW_A,)),), (1,) * 201), ("TooMany", 201))
        self.assertEqual(self.good((("loop", (NEW_A,)),), (1,) * 3001), ("TooMany", 3001))
        # No program has more than a hundred rows from one choice to the next one.
        body = (U,) * 17
        self.good(body + (("loop", body),) + (V,) * 5, (1, 1, 0))
        self.good((U,) * 40, ())


class TestWatch(unittest.TestCase):
    def good(self, code, told, choices):
        """What watch returns or raises, beside the events of the slow run and all words of all pairs."""
        got = told_or_refused(watch, code, told, choices)
        end, events = slow_run(code, choices)
        found = slow_break(told, events)
        if found is not None:
            step, i, j = found
            self.assertEqual(got[:3], found)
            self.assertEqual(got[3], tuple(events[:len(got[3])]))
            self.assertEqual(got[3][-1][0], step)
            self.assertIsNone(slow_break(told, got[3][:-1]))
            self.assertEqual(slow_break(told, got[3]), found)
        else:
            self.assertEqual(got, end if isinstance(end[0], str) else None)
        return got

    def test_by_name(self):
        self.assertIsNone(watch(code=(STOP,), table_=NONE, choices=()))

    def test_example(self):
        code = (NEW_A, NEW_B, U, ("end", "b"), STOP)
        told = table(("then", STAR, ("then", ("any",), "y.end")))
        self.assertEqual(
            self.good(code, told, ()), (4, 0, 1, ((1, "new", 0), (2, "new", 1), (3, "u", 0), (4, "end", 1)))
        )
        self.assertIsNone(self.good(code[:3] + (STOP,), told, ()))

    def test_kinds_of_values(self):
        got = watch(compiled(EXAMPLE), NEW, ())
        self.assertEqual([one.__class__ for one in got], [int, int, int, tuple])
        self.assertEqual({one.__class__ for one in got[3]}, {tuple})

    def test_none(self):
        for code in ((STOP,), EXAMPLE + (STOP,), compiled(EXAMPLE_A)):
            self.assertIsNone(self.good(code, NONE, ()))
        for code in ((STOP,), (NEW_A, U, STOP)):
            self.assertIsNone(self.good(code, ALL, ()))

    def test_the_least_pair(self):
        code = (NEW_A, NEW_B, ("new", "c"), ("new", "d"), ("do", "u", "c"), STOP)
        self.assertEqual(self.good(code, ends_with("e.u"), ())[:3], (5, 2, 3))
        self.assertEqual(self.good(code, ends_with("y.u"), ())[:3], (5, 0, 2))
        self.assertEqual(self.good(code, table(("then", STAR, ("or", "e.u", "y.u"))), ())[:3], (5, 0, 2))
        self.assertEqual(self.good(code, ends_with("y.new"), ())[:3], (2, 0, 1))

    def test_the_least_pair_of_pairs_that_came_to_the_same_state(self):
        # Two things lie in p by unlike words; behind v there is no more between their pairs with a third one.
        first = (NEW_A, PUT, NEW_A, U, PUT)
        also = ("or", ("nothing",), "e.u")
        rule = ("then", also, ("then", "e.putp", ("then", "y.new", ("then", "y.v", "y.w"))))
        told = table(("or", rule, ("then", "e.putp", ("then", "y.new", "y.w"))))
        self.assertEqual(self.good(first + (NEW_B, ("do", "v", "b"), ("do", "w", "b"), STOP), told, ())[:3], (8, 0, 2))
        self.assertEqual(self.good((NEW_B,) + first + (("do", "v", "b"), ("do", "w", "b"), STOP), NONE, ()), None)
        also = ("or", ("nothing",), "y.u")
        rule = ("then", "y.new", ("then", also, ("then", "y.putp", ("then", "e.v", "e.w"))))
        told = table(("or", rule, ("then", "y.new", ("then", "y.putp", "e.u"))))
        self.assertEqual(self.good((NEW_B,) + first + (("do", "v", "b"), ("do", "w", "b"), STOP), told, ())[:3], (8, 0, 1))

    def test_the_first_of_two_events_of_one_step(self):
        code = (NEW_A, NEW_B, NEW_A, STOP)
        self.assertEqual(self.good(code, ends_with("e.end"), ()), (3, 0, 1, ((1, "new", 0), (2, "new", 1), (3, "end", 0))))
        self.assertEqual(self.good(code, ends_with("e.end", "y.new"), ())[:3], (3, 0, 2))
        self.assertEqual(len(self.good(code, ends_with("e.end", "y.new"), ())[3]), 4)
        code = (NEW_A, PUT, NEW_B, ("take", "p", "b"), STOP)
        self.assertEqual(self.good(code, ends_with("y.end"), (1,))[3][-1], (4, "end", 1))
        self.assertEqual(self.good(code, ends_with("y.end", "e.takep"), (1,))[3][-1], (4, "takep", 0))
        self.assertIsNone(self.good(code, ends_with("y.end", "e.takep"), (0,)))

    def test_bad_states_that_words_without_the_making_lead_to(self):
        told = (((0,) * 5 + (1,) + (0,) * 11, (0,) * 17), (False, True))
        self.assertIsNone(self.good((NEW_A, U, NEW_B, STOP), told, ()))
        self.assertEqual(self.good((NEW_A, U, NEW_B, U, STOP), told, ())[:3], (4, 0, 1))
        stays = (((0,) * 16 + (1,), (1,) * 17), (True, False))
        self.assertIsNone(self.good(EXAMPLE + (STOP,), stays, ()))

    def test_choices_behind_the_break(self):
        code = (NEW_A, NEW_B, ("loop", 5), U, ("jump", 2), STOP)
        for choices in ((), (5,), (-1,), (0, 0), (1, 7), (7,) * 3000):
            self.assertEqual(self.good(code, NEW, choices)[:3], (2, 0, 1))
        told = ends_with("e.u", "e.u")
        for choices in ((1, 1), (1, 1, 7), (1, 1, 0, 0)):
            self.assertEqual(self.good(code, told, choices)[:3], (4, 0, 1))
        self.assertEqual(refusal(watch, code, NEW, (0,) * 3001), ("TooMany", 3001))
        # A break ahead of the 101st row and of the 201st thing.
        self.assertEqual(self.good((NEW_A,) + (NEW_B,) * 200 + (STOP,), NEW, ())[:3], (2, 0, 1))
        self.assertEqual(self.good((("loop", 3), NEW_A, ("jump", 0), STOP), ends_with("y.end"), (1,) * 999)[:3], (3, 0, 1))

    def test_errors_ahead_of_the_break(self):
        code = (("loop", 3), U, ("jump", 0), NEW_A, ("take", "p", "c"), NEW_B, STOP)
        self.assertEqual(self.good(code, NEW, (2,)), ("BadChoices", 0))
        self.assertEqual(self.good(code, NEW, (1, -1)), ("BadChoices", 1))
        self.assertEqual(self.good(code, NEW, (0, 1)), ("BadChoices", 1))
        self.assertIsNone(self.good(code, NEW, (0,)))
        self.assertEqual(self.good(code, NEW, (0, 0))[:3], (3, 0, 1))
        self.assertEqual(self.good(code, NEW, (0, 0, 0))[:3], (3, 0, 1))
        self.assertEqual(self.good(code, ends_with("e.u"), (0, 0, 0)), ("BadChoices", 2))
        told = ends_with("y.new")
        self.assertEqual(self.good((U,) * 100 + (NEW_A, NEW_B, STOP), told, ()), ("TooMany", 101))
        self.assertEqual(self.good((NEW_A,) + (U,) * 99 + (NEW_B, STOP), told, ()), ("TooMany", 101))
        self.assertEqual(self.good((NEW_A,) + (U,) * 98 + (NEW_B, STOP), told, ())[:3], (100, 0, 1))
        code = (("loop", 4), NEW_A, PUT, ("jump", 0), ("take", "p", "b"), ("do", "v", "b"), STOP)
        self.assertEqual(watch(code, ends_with("y.v"), (1,) * 200 + (0, 200))[:3], (402, 0, 199))
        self.assertEqual(refusal(watch, code, ends_with("y.v"), (1,) * 201 + (0, 200)), ("TooMany", 201))
        # What the name holds would end ahead of the 201st making, but nothing of that row is done.
        code = (("loop", 3), NEW_A, ("jump", 0), STOP)
        told = ring(200, (199,), 4)
        self.assertEqual(refusal(watch, code, told, (1,) * 201), ("TooMany", 201))

    def test_the_order_of_errors(self):
        for thing, name, what in bad_tables():
            for code in ((STOP,), (("loop", 0), STOP)):
                for choices in ((), (9,), (0,) * 3001):
                    self.assertEqual(refusal(watch, code, thing, choices), (name, what))
            self.assertEqual(refusal(watch, (U,), thing, (9,)), ("BadCode", 1))
        for thing in odd_values():
            self.assertEqual(refusal(watch, EXAMPLE + (STOP,), thing, (0,) * 3001), ("BadTable", 0))
        self.assertEqual(refusal(watch, EXAMPLE + (STOP,), NEW, (0,) * 3001), ("TooMany", 3001))

    def test_beside_breaks_at(self):
        source = random.Random(116)
        letters = ["e.end", "e.u", "y.u", "y.end", "e.putp", "y.putp", "y.takep", "y.new"]
        found = 0
        for _ in range(80):
            program = lively_program(source, source.randint(2, 10), 3, ("a", "b", "c"))
            tables = [random_table(source, source.randint(1, 6), 0.2), NEW]
            tables += [table(random_rule(source, 9, source.sample(letters, 4) + ["y.new"]))]
            words = met_words(source, program, 10)
            tables += [word_table(word) for word in source.sample(words, min(2, len(words)))]
            for told in tables:
                for choices, _ in source.sample(plays_of(program, 5), 3):
                    choices += (source.choice((0, 1, 7)),)
                    got = breaks_at(program, told, choices)
                    also = told_or_refused(watch, compiled(program), told, choices)
                    self.assertEqual(got, also[:3] if also is not None and not isinstance(also[0], str) else None)
                    found += got is not None
        self.assertGreater(found, 100)

    def test_code_that_leads_anywhere(self):
        source = random.Random(117)
        kinds = {}
        for _ in range(1500):
            many = source.randint(3, 14)
            code = (NEW_A, ("put", "a", "p"), NEW_B) + random_code(source, many)
            code = tuple((row[0], row[1] + 3) if row[0] in ("loop", "either", "jump") else row for row in code)
            choices = tuple(source.choice((0, 1, 1, 0, 2)) for _ in range(source.choice((0, 1, 3, 8, 12))))
            told = random_table(source, source.randint(1, 8), 0.1)
            got = self.good(code, told, choices)
            kind = None if got is None else got[0] if isinstance(got[0], str) else got[0] // 6
            kinds[kind] = kinds.get(kind, 0) + 1
        self.assertGreater(len(kinds), 4)
        self.assertGreater(kinds["BadChoices"], 50)
        self.assertGreater(kinds[None], 50)

    def test_many_things_that_are_taken_again_and_again(self):
        source = random.Random(118)
        found = 0
        for _ in range(15):
            body = [random_row(source, 1) for _ in range(30)]
            body = tuple(row for row in body if row[0] not in ("loop", "either", "jump", "new"))
            code = TWO_HUNDRED + (("loop", 6 + len(body)),) + body + (("jump", 4), STOP)
            choices = (1,) * 9 + (0,)
            for _ in range(50):
                running = SlowRun(code, choices)
                running.go()
                choices += (source.randint(min(1, running.bound), running.bound),)
            words = list(words_of(slow_run(code, choices)[1]).values())
            tables = [word_table(word[:198]) for word in source.sample(words, 4)]
            tables += [ring(5, (4,), source.randrange(16)), random_table(source, 30, 0.02)]
            for told in tables:
                found += self.good(code, told, choices) is not None
        self.assertGreater(found, 50)

    def test_it_takes_no_time(self):
        source = random.Random(119)
        orders = [source.sample(range(200), 200) for _ in range(17)]
        mixed = (tuple(tuple(order[state] for order in orders) for state in range(200)), (False,) * 200)
        tables = (ends_with("y.end", "y.u"), mixed, (random_table(source, 200, 0)[0], (False,) * 200))
        # As many rows as there may be, each an event of a thing with 199 pairs.
        body = tuple(("do", "uvw"[at % 3], "abcd"[at % 4]) for at in range(98))
        takes = (NEW_A,) + tuple(("take", "p", name) for name in "bcd")
        busy = TWO_HUNDRED + takes + (("loop", 108),) + body + (("jump", 8), STOP)
        choices = ((1,) * 199 + (0, 1, 50, 100) + (1,) * 3000)[:3000]
        # Things that are taken and put, one after the other.
        shuttle = (("take", "p", "a"), U, PUT) * 90
        back = TWO_HUNDRED + (("loop", 276),) + shuttle + (("jump", 4), STOP)
        rounds = (1,) * 200 + (0,)
        while len(rounds) < 2900:
            rounds += (1,) + tuple(source.randint(1, 200) for _ in range(90))
        for code, told_choices in ((busy, choices), (back, rounds)):
            begun = time.monotonic()
            run(code, told_choices)
            self.assertLess(time.monotonic() - begun, 5)
            for told in tables:
                begun = time.monotonic()
                self.assertIsNone(watch(code, told, told_choices))
                self.assertLess(time.monotonic() - begun, 10)


if __name__ == "__main__":
    unittest.main()
