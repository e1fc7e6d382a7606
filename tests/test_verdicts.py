import random
import time
import unittest

from anytwo.layouts import end_of, first_place, laid_out, ways
from anytwo.letters import LETTERS
from anytwo.plays import play
from anytwo.programs import made_program
from anytwo.tables import least, table
from anytwo.tablesums import joined, word_table
from anytwo.things import Things
from anytwo.verdicts import breaking, breaks_at, keeps, least_steps
from expressions import random_rule
from helpers import deep, odd_values, refusal
from made_programs import EXAMPLE, EXAMPLE_A, LARGE, bounds_at, lively_program, met_words, plays_of, random_program
from made_programs import slow_break, slow_breaks_at
from made_tables import NONE, bad_tables, random_table, ring

ANY = ("any",)
STAR = ("star", ANY)
# Broken by each word with y.new.
ALL = (((0,) * 17,), (True,))
NEW = table("y.new")
YOUNGER_ENDS = table(("then", STAR, "y.end"))
NEW_A = ("new", "a")
U = ("do", "u", "a")
# The younger thing is taken while the elder one lies in the pile p.
LIES = ("then", STAR, ("then", "e.putp", ("star", ("and", ANY, ("not", "e.takep")))))
TAKEN_AHEAD = table(("then", LIES, "y.takep"))


def ends_with(*letters):
    """The table of all words that end with these letters."""
    rule = STAR
    for letter in letters:
        rule = ("then", rule, letter)
    return table(rule)


def counter(letter, many):
    """Broken by each word in which this letter stands at least so many times."""
    moves = []
    for state in range(many + 1):
        onward = [state] * 17
        onward[LETTERS.index(letter)] = min(state + 1, many)
        moves.append(tuple(onward))
    return (tuple(moves), (False,) * many + (True,))


def drawn_tables(source, program):
    """Tables of several kinds, some of them broken by some play of the program."""
    letters = ("e.end", "e.u", "y.u", "y.end", "e.putp", "y.putp", "y.takep", "y.new")
    found = [
        random_table(source, source.randint(1, 4), 0.3), random_table(source, source.randint(2, 6), 0.1),
        table(random_rule(source, source.randint(3, 12), source.sample(letters, 3) + ["y.new"])),
    ]
    words = met_words(source, program, 8)
    for word in source.sample(words, min(2, len(words))):
        at = word.index("y.new")
        found.append(word_table(word[:source.randint(at + 1, len(word))]))
    return found


class TestBreaksAt(unittest.TestCase):
    def test_by_name(self):
        self.assertEqual(breaks_at(program=EXAMPLE, table_=NEW, choices=()), (2, 0, 1))

    def test_examples(self):
        self.assertEqual(breaks_at(EXAMPLE, NEW, ()), (2, 0, 1))
        self.assertEqual(breaks_at(EXAMPLE, YOUNGER_ENDS, ()), (4, 0, 1))
        self.assertIsNone(breaks_at(EXAMPLE, ends_with("e.end"), ()))
        self.assertIsNone(breaks_at(EXAMPLE, NONE, ()))
        self.assertEqual(breaks_at(EXAMPLE, ALL, ()), (2, 0, 1))
        self.assertEqual(breaks_at(EXAMPLE_A, TAKEN_AHEAD, (1, 0, 1, 2)), (6, 0, 1))
        self.assertIsNone(breaks_at(EXAMPLE_A, TAKEN_AHEAD, (1, 0, 1, 1)))

    def test_the_first_event(self):
        # The first thing ends, and then the new one is made, in one step.
        program = (NEW_A, ("new", "b"), NEW_A)
        self.assertEqual(breaks_at(program, ends_with("e.end"), ()), (3, 0, 1))
        self.assertEqual(breaks_at(program, ends_with("y.new"), ()), (2, 0, 1))
        self.assertEqual(breaks_at(program, ends_with("e.end", "y.new"), ()), (3, 0, 2))
        self.assertEqual(breaks_at(program, table(("or", ("then", STAR, "e.end"), ("then", "e.end", "y.new"))), ()), (3, 0, 1))

    def test_the_least_of_several_pairs(self):
        program = (NEW_A, ("new", "b"), ("new", "c"), ("new", "d"), ("do", "u", "c"))
        self.assertEqual(breaks_at(program, ends_with("e.u"), ()), (5, 2, 3))
        self.assertEqual(breaks_at(program, ends_with("y.u"), ()), (5, 0, 2))
        self.assertEqual(breaks_at(program, table(("then", STAR, ("or", "e.u", "y.u"))), ()), (5, 0, 2))
        self.assertEqual(breaks_at(program[:4] + (U,), ends_with("e.u"), ()), (5, 0, 1))
        self.assertEqual(breaks_at(program[:4] + (("do", "u", "d"),), ends_with("y.u"), ()), (5, 0, 3))

    def test_things_that_are_made_later(self):
        # The elder thing goes through u ahead of the making of the younger one; the word so far breaks nothing.
        program = (NEW_A, U, ("new", "b"), ("new", "c"), U)
        self.assertEqual(breaks_at(program, table(("then", "e.u", "y.new")), ()), (3, 0, 1))
        self.assertEqual(breaks_at(program, table(("then", STAR, ("then", "e.u", STAR))), ()), (3, 0, 1))
        self.assertEqual(breaks_at(program, table(("then", "e.u", ("then", "y.new", "e.u"))), ()), (5, 0, 1))

    def test_bad_states_that_words_without_the_making_lead_to(self):
        told = (((0,) * 5 + (1,) + (0,) * 11, (0,) * 17), (False, True))
        self.assertIsNone(breaks_at((NEW_A, U, ("new", "b")), told, ()))
        self.assertEqual(breaks_at((NEW_A, U, ("new", "b"), U), told, ()), (4, 0, 1))
        # Bad from the first state on, but only with y.new.
        stays = (((0,) * 16 + (1,), (1,) * 17), (True, False))
        self.assertIsNone(breaks_at(EXAMPLE, stays, ()))

    def test_choices_behind_the_break_are_not_looked_at(self):
        program = (NEW_A, ("new", "b"), ("loop", (U,)), ("end", "b"))
        self.assertEqual(breaks_at(program, NEW, ()), (2, 0, 1))
        for choices in ((5,), (-1,), (0, 0), (1, 1, 7), (10 ** 5000,), (0,) * 3000, (7,) * 3000):
            self.assertEqual(breaks_at(program, NEW, choices), (2, 0, 1))
        told = ends_with("e.u", "e.u")
        self.assertEqual(breaks_at(program, told, (1, 1)), (4, 0, 1))
        for choices in ((1, 1, 2), (1, 1, -1), (1, 1, 0, 0, 0), (1, 1, 1), (1, 1) + (9,) * 2998):
            self.assertEqual(breaks_at(program, told, choices), (4, 0, 1))

    def test_bad_choices_ahead_of_the_break(self):
        program = (("loop", (NEW_A, ("new", "b"))), ("end", "a"))
        self.assertEqual(breaks_at(program, NEW, (1,)), (2, 0, 1))
        for choices in ((2,), (-1,), (2, 1), (0, 0), (0, 1), (3, 1, 0)):
            self.assertIsNone(breaks_at(program, NEW, choices))
        self.assertIsNone(breaks_at(EXAMPLE, NONE, (0,)))
        self.assertIsNone(breaks_at((("take", "p", "a"),) + EXAMPLE, NEW, (1,)))
        self.assertEqual(breaks_at((("take", "p", "a"),) + EXAMPLE, NEW, (0,)), (3, 0, 1))
        self.assertEqual(breaks_at((("take", "p", "a"),) + EXAMPLE, NEW, (0, 0)), (3, 0, 1))

    def test_a_play_that_is_too_short(self):
        program = (("loop", (NEW_A, ("new", "b"))), ("end", "a"))
        self.assertIsNone(breaks_at(program, NEW, ()))
        self.assertIsNone(breaks_at(program, ends_with("e.end", "y.new"), (1,)))
        self.assertEqual(breaks_at(program, ends_with("e.end", "y.new"), (1, 1)), (3, 0, 2))
        self.assertEqual(breaks_at(program, ends_with("e.end"), (1, 0)), (3, 0, 1))
        self.assertIsNone(breaks_at(program, ends_with("e.end"), (0,)))

    def test_fewer_than_two_things(self):
        for program in ((), (NEW_A,), (U, ("loop", ())), (NEW_A, U, ("end", "a"), ("take", "p", "a"))):
            for choices in ((), (0,), (1,)):
                self.assertIsNone(breaks_at(program, ALL, choices))

    def test_more_than_three_thousand_choices(self):
        program = (NEW_A, ("new", "b"), ("loop", (U,)))
        self.assertEqual(breaks_at(program, NEW, (1,) * 3000), (2, 0, 1))
        self.assertIsNone(breaks_at(program, NEW, (1,) * 3001))
        self.assertIsNone(breaks_at(program, NEW, (0,) * 99999))

    def test_more_than_two_hundred_things(self):
        program = (("loop", (NEW_A, ("put", "a", "p"))), ("take", "p", "a"), U)
        told = ends_with("y.u")
        self.assertEqual(breaks_at(program, told, (1,) * 200 + (0, 200)), (402, 0, 199))
        self.assertIsNone(breaks_at(program, told, (1,) * 201 + (0, 200)))
        self.assertEqual(breaks_at(program, ends_with("y.new"), (1,) * 201), (3, 0, 1))
        # The break comes with the making of the thing 199, and the 201st thing behind it.
        two = (("loop", (NEW_A, ("put", "a", "p"))), NEW_A, ("do", "v", "a"), ("loop", (("new", "b"),)))
        self.assertEqual(breaks_at(two, ends_with("y.v"), (1,) * 199 + (0,) + (1,) * 9), (400, 0, 199))
        self.assertIsNone(breaks_at(two, ends_with("y.v"), (1,) * 200 + (0, 1)))
        # What the name holds would end ahead of the 201st making, but nothing of that statement is done.
        three = (("loop", (NEW_A,)),)
        self.assertIsNone(breaks_at(three, counter("e.end", 2), (1,) * 300))
        last = (("loop", (NEW_A, ("put", "a", "p"))), ("new", "b"), ("new", "b"))
        self.assertEqual(breaks_at(last, ends_with("y.end"), (1,) * 198 + (0,)), (398, 0, 198))
        self.assertIsNone(breaks_at(last, ends_with("y.end"), (1,) * 199 + (0,)))

    def test_no_programs(self):
        for thing in odd_values() + [(None,), ((NEW_A,),), (NEW_A,) * 41, EXAMPLE + (None,), deep(100, "a")]:
            for choices in ((), (1,)):
                self.assertIsNone(breaks_at(thing, ALL, choices))

    def test_no_tables(self):
        for thing in odd_values() + [thing for thing, _, _ in bad_tables()]:
            self.assertIsNone(breaks_at(EXAMPLE, thing, ()))

    def test_no_choices(self):
        for thing in odd_values():
            good = isinstance(thing, tuple) and all(one.__class__ is int for one in thing)
            got = breaks_at(EXAMPLE, NEW, thing)
            self.assertEqual(got, (2, 0, 1) if good and len(thing) <= 3000 else None)
        program = (NEW_A, ("new", "b"), ("loop", (U,)))
        for bad in (True, False, None, "1", "", (), (1,), deep(98)):
            for choices in ((bad,), (1, bad), (bad, 1), (1,) * 2999 + (bad,), (9, 9, bad)):
                self.assertIsNone(breaks_at(program, NEW, choices))
        self.assertEqual(breaks_at(program, NEW, (1, 9)), (2, 0, 1))

    def test_odd_values_together(self):
        values = [thing for thing in odd_values() if not (isinstance(thing, tuple) and len(thing) > 100)]
        for one in values:
            for two in values:
                self.assertIsNone(breaks_at(one, two, one))
                self.assertIsNone(breaks_at(one, ALL, two))
                self.assertIsNone(breaks_at(two, two, one))

    def test_all_short_plays(self):
        source = random.Random(61)
        found = set()
        for _ in range(60):
            program = lively_program(source, source.randint(3, 9), source.choice((2, 3)))
            plays = plays_of(program, 5)
            for told in drawn_tables(source, program):
                for choices, (events, *_) in plays:
                    got = breaks_at(program, told, choices)
                    self.assertEqual(got, slow_break(told, events))
                    found.add(got)
        self.assertGreater(len(found), 20)

    def test_choices_at_random(self):
        source = random.Random(62)
        answers = 0
        for _ in range(60):
            program = lively_program(source, source.randint(3, 9), 3, ("a", "b", "c"))
            for told in drawn_tables(source, program):
                for _ in range(6):
                    choices = tuple(source.choice((0, 1, 1, 1, 2, -1)) for _ in range(source.randint(0, 9)))
                    got = breaks_at(program, told, choices)
                    self.assertEqual(got, slow_breaks_at(program, told, choices))
                    answers += got is not None
        self.assertGreater(answers, 100)

    def test_many_things(self):
        source = random.Random(63)
        for _ in range(30):
            program = (("loop", (NEW_A, ("either", (("put", "a", "p"),), (("move", "a", "b"), U, ("put", "b", "q"))))), (
                "loop", (("take", "p", "b"), ("do", "u", "b"), ("put", "b", "q"), ("take", "q", "c"), ("put", "c", "p"))))
            choices = tuple(source.choice(((1, 0), (1, 1))) for _ in range(12))
            choices = tuple(one for two in choices for one in two) + (0,)
            told = play(program, choices)
            while len(choices) < 60:
                choices += (source.randint(min(1, bounds_at(program, told)), bounds_at(program, told)),)
                told = play(program, choices)
            for told_table in (ends_with("y.putq", "e.u", "e.putq"), random_table(source, 30, 0.02), ring(7, (5,))):
                self.assertEqual(breaks_at(program, told_table, choices), slow_break(told_table, told[0]))

    def test_it_takes_no_time(self):
        source = random.Random(64)
        program = (
            ("loop", (NEW_A, ("put", "a", "p"))), ("take", "p", "a"), ("loop", (("do", "u", "a"),) * 17 + (("do", "v", "a"),) * 18)
        )
        made_program(program)
        choices = (1,) * 200 + (0, 100) + (1,) * 2798
        for told in ((random_table(source, 200, 0)[0], (False,) * 200), random_table(source, 200, 0.5)):
            begun = time.monotonic()
            breaks_at(program, told, choices)
            self.assertLess(time.monotonic() - begun, 10)
        told = counter("e.v", 199)
        begun = time.monotonic()
        self.assertEqual(breaks_at(program, told, choices), (401 + 11 * 35 + 18, 99, 100))
        self.assertLess(time.monotonic() - begun, 5)


class TestLeastSteps(unittest.TestCase):
    def good(self, program, told, most):
        """What the three functions tell, beside all plays by up to so many choices."""
        got = least_steps(program, told)
        self.assertIs(keeps(program, told), got is None)
        breaks = [(slow_break(told, events), len(choices)) for choices, (events, *_) in plays_of(program, most)]
        breaks = [(found[0], many) for found, many in breaks if found is not None]
        if got is None:
            self.assertEqual(breaks, [])
            self.assertEqual(refusal(breaking, program, told), ("Kept", 0))
            return got
        self.assertIs(got.__class__, int)
        choices, i, j = breaking(program, told)
        self.assertEqual(breaks_at(program, told, choices), (got, i, j))
        if choices:
            self.assertIsNone(breaks_at(program, told, choices[:-1]))
        if breaks:
            self.assertLessEqual(got, min(breaks)[0])
        if len(choices) <= most:
            self.assertEqual(min(breaks), (got, len(choices)))
        return got

    def test_by_name(self):
        self.assertEqual(least_steps(program=EXAMPLE, table_=NEW), 2)
        self.assertIs(keeps(program=EXAMPLE, table_=NEW), False)
        self.assertEqual(breaking(program=EXAMPLE, table_=NEW), ((), 0, 1))

    def test_examples(self):
        self.assertEqual(least_steps(EXAMPLE, NEW), 2)
        self.assertEqual(least_steps(EXAMPLE, YOUNGER_ENDS), 4)
        self.assertEqual(least_steps(EXAMPLE_A, TAKEN_AHEAD), 6)
        self.assertIs(keeps(EXAMPLE, ends_with("e.end")), True)
        self.assertIsNone(least_steps(EXAMPLE, ends_with("e.end")))

    def test_each_statement_is_one_step(self):
        around = (("move", "c", "c"), ("end", "d"), ("put", "d", "q"), ("do", "u", "c"), ("take", "q", "c"), ("move", "c", "d"))
        for many in range(7):
            program = around[:many] + EXAMPLE
            self.assertEqual(least_steps(program, NEW), many + 2)
            program = EXAMPLE[:1] + around[:many] + EXAMPLE[1:]
            self.assertEqual(least_steps(program, NEW), many + 2)

    def test_loops_and_eithers_are_none(self):
        for inner in ((("loop", ()),), (("either", (), ()),), (("loop", (("loop", (("either", (), ()),)),)), ("loop", ()))):
            for program in (inner + EXAMPLE, EXAMPLE[:1] + inner + EXAMPLE[1:], (("loop", inner + EXAMPLE),)):
                self.assertEqual(self.good(program, NEW, 5), 2)
                self.assertEqual(self.good(program, YOUNGER_ENDS, 4), 4)

    def test_the_shortest_of_several_ways(self):
        program = (NEW_A, ("either", (U, U, U), (U,)), ("new", "b"))
        self.assertEqual(self.good(program, ALL, 2), 3)
        self.assertEqual(breaking(program, ALL), ((1,), 0, 1))
        # The way of fewer steps goes even where it wants more choices.
        program = (NEW_A, ("either", (U, U), (("loop", ()), ("loop", ()), ("either", (), ()))), ("new", "b"))
        self.assertEqual(self.good(program, ALL, 5), 2)
        self.assertEqual(breaking(program, ALL)[0][:3], (1, 0, 0))
        self.assertEqual(len(breaking(program, ALL)[0]), 4)
        # Of ways of as many steps that of fewer choices: a take counts a choice, an end none.
        program = (NEW_A, ("either", (("take", "p", "c"),), (("end", "c"),)), ("new", "b"))
        self.assertEqual(breaking(program, ALL), ((1,), 0, 1))
        program = (NEW_A, ("either", (("end", "c"),), (("take", "p", "c"),)), ("new", "b"))
        self.assertEqual(breaking(program, ALL), ((0,), 0, 1))

    def test_each_choice_counts_as_much(self):
        # Two ways of as many steps, one by two statements that take a choice, the other one by three of another kind.
        kinds = {"loop": ("loop", ()), "either": ("either", (), ()), "take": ("take", "p", "c"), "end": ("end", "c")}
        for one in ("loop", "either", "take"):
            for two in ("loop", "either", "take"):
                bodies = []
                for kind, many in ((one, 2), (two, 3)):
                    steps = many if kind == "take" else 0
                    bodies.append((kinds[kind],) * many + (kinds["end"],) * (3 - steps))
                program = (NEW_A, ("either", *bodies), ("new", "b"))
                self.assertEqual(least_steps(program, ALL), 5)
                self.assertEqual(breaking(program, ALL), ((0, 0, 0), 0, 1))
                program = (NEW_A, ("either", *reversed(bodies)), ("new", "b"))
                self.assertEqual(breaking(program, ALL), ((1, 0, 0), 0, 1))

    def test_of_breaks_in_the_same_step_that_of_fewer_choices(self):
        # The take that breaks the table is a choice more than the end that does.
        program = (
            NEW_A, ("new", "b"), ("either", (("take", "p", "b"),), (("either", (("end", "b"),), (("end", "b"),)),)),
        )
        self.assertEqual(self.good(program, YOUNGER_ENDS, 3), 3)
        self.assertEqual(len(breaking(program, YOUNGER_ENDS)[0]), 2)
        program = (NEW_A, ("new", "b"), ("either", (("take", "p", "b"),), (("end", "b"),)))
        self.assertEqual(breaking(program, YOUNGER_ENDS), ((1,), 0, 1))
        program = (NEW_A, ("new", "b"), ("either", (("end", "b"),), (("take", "p", "b"),)))
        self.assertEqual(breaking(program, YOUNGER_ENDS), ((0,), 0, 1))

    def test_at_the_first_of_two_letters(self):
        # The take ends what the name holds, and takes the other thing.
        program = (NEW_A, ("put", "a", "p"), ("new", "b"), ("take", "p", "b"))
        self.assertEqual(self.good(program, ends_with("y.end"), 2), 4)
        self.assertEqual(self.good(program, ends_with("y.end", "e.takep"), 2), 4)
        self.assertEqual(breaking(program, ends_with("y.end", "e.takep")), ((1,), 0, 1))
        self.assertIn(breaking(program, ends_with("y.end")), (((0,), 0, 1), ((1,), 0, 1)))
        # Behind both letters the table is not bad any more.
        word = ("e.putp", "y.new", "y.end")
        self.assertEqual(self.good(program, word_table(word), 2), 4)
        self.assertEqual(self.good(program, word_table(word + ("e.takep",)), 2), 4)
        program = (NEW_A, ("new", "b"), ("put", "b", "p"), ("take", "p", "a"))
        self.assertEqual(self.good(program, ends_with("e.end"), 2), 4)
        self.assertEqual(self.good(program, ends_with("e.end", "y.takep"), 2), 4)
        self.assertIsNone(self.good(program, ends_with("y.takep", "e.end"), 2))

    def test_at_the_making_behind_the_end(self):
        program = (NEW_A, NEW_A)
        self.assertEqual(self.good(program, ends_with("e.end", "y.new"), 0), 2)
        # Without the younger thing the end of the elder one breaks nothing.
        self.assertIsNone(self.good(program, word_table(("e.end",)), 0))
        self.assertIsNone(self.good(program, (((1,) * 16 + (0,), (1,) * 16 + (0,)), (False, True)), 0))
        self.assertEqual(self.good(program, (((1,) * 17, (1,) * 17), (False, True)), 0), 2)

    def test_bad_states_that_words_without_the_making_lead_to(self):
        told = (((0,) * 5 + (1,) + (0,) * 11, (0,) * 17), (False, True))
        self.assertIsNone(self.good((NEW_A, U, ("new", "b")), told, 0))
        self.assertIsNone(self.good((NEW_A, ("loop", (U,)), ("new", "b")), told, 5))
        self.assertEqual(self.good((NEW_A, U, ("new", "b"), U), told, 0), 4)
        stays = (((0,) * 16 + (1,), (1,) * 17), (True, False))
        self.assertIsNone(self.good(EXAMPLE, stays, 0))
        self.assertIsNone(self.good(EXAMPLE_A, stays, 4))
        self.assertEqual(self.good(EXAMPLE_A, (stays[0], (True, True)), 4), 4)

    def test_fewer_than_two_things(self):
        for program in ((), (NEW_A,), (("loop", (U,)),), (NEW_A, ("loop", (U, ("take", "p", "b")))), (("either", (NEW_A,), (NEW_A,)),)):
            self.assertIsNone(self.good(program, ALL, 4))
            self.assertIs(keeps(program, ALL), True)

    def test_example_a(self):
        for told in (TAKEN_AHEAD, NEW, YOUNGER_ENDS, ends_with("e.end"), ends_with("e.takep", "y.takep"), ends_with("y.putp")):
            self.good(EXAMPLE_A, told, 6)
        # Both are taken, but never at once in two names: the first one ends as the second one is taken.
        self.assertIsNone(self.good(EXAMPLE_A, ends_with("e.takep", "y.takep"), 6))
        self.assertIsNone(self.good(EXAMPLE_A, ends_with("e.takep", "y.takep", "e.end"), 6))
        self.assertEqual(least_steps(EXAMPLE_A, ends_with("e.end", "y.takep")), 6)

    def test_random_programs_beside_all_short_plays(self):
        source = random.Random(65)
        answers = []
        for _ in range(60):
            program = random_program(source, source.randint(2, 10), 3)
            answers += [self.good(program, told, 5) for told in drawn_tables(source, program)]
        self.assertIn(None, answers)
        self.assertGreater(len(set(answers)), 4)

    def test_lively_programs_beside_all_short_plays(self):
        source = random.Random(66)
        answers = []
        for _ in range(80):
            program = lively_program(source, source.randint(3, 9), source.choice((2, 3)), source.choice((("a", "b"), ("a", "b", "c"))))
            answers += [self.good(program, told, 6) for told in drawn_tables(source, program)]
        self.assertGreater(len([one for one in answers if one is not None]), 100)
        self.assertGreater(len(set(answers)), 10)

    def test_the_same_of_the_least_table(self):
        source = random.Random(67)
        for _ in range(60):
            program = lively_program(source, source.randint(3, 12), 3)
            for told in drawn_tables(source, program):
                self.assertEqual(least_steps(program, told), least_steps(program, least(told)))

    def test_either_of_two_tables(self):
        source = random.Random(68)
        for _ in range(60):
            program = lively_program(source, source.randint(3, 12), 3)
            one, two = drawn_tables(source, program)[:2]
            steps = [told for told in (least_steps(program, one), least_steps(program, two)) if told is not None]
            self.assertEqual(least_steps(program, joined(one, two, "or")), min(steps, default=None))

    def test_far_breaks(self):
        program = (NEW_A, ("new", "b"), ("loop", (U, ("do", "v", "b"))))
        self.assertEqual(least_steps(program, counter("e.u", 199)), 2 + 2 * 198 + 1)
        self.assertEqual(least_steps(program, counter("y.v", 199)), 2 + 2 * 199)
        self.assertTrue(keeps(program, counter("y.u", 1)))
        # Two hundred rounds, each with a thing: more than can be handed in to play.
        program = (NEW_A, ("loop", (("new", "b"), ("new", "c"), U)))
        self.assertEqual(least_steps(program, counter("e.u", 199)), 1 + 3 * 199)

    def test_errors_in_their_order(self):
        for function in (least_steps, keeps, breaking):
            for thing, name, what in bad_tables():
                self.assertEqual(refusal(function, EXAMPLE, thing), (name, what))
                self.assertEqual(refusal(function, (), thing), (name, what))
                self.assertEqual(refusal(function, None, thing), ("BadProgram", ()))
                self.assertEqual(refusal(function, (NEW_A, ("loop", (3,))), thing), ("BadProgram", (1, 0)))
                self.assertEqual(refusal(function, (NEW_A,) * 41, thing), ("TooMany", 41))
            for thing in odd_values():
                self.assertEqual(refusal(function, EXAMPLE, thing), ("BadTable", 0))
                if thing != ():
                    self.assertEqual(refusal(function, thing, NEW), refusal(made_program, thing))

    def test_they_take_no_time(self):
        source = random.Random(69)
        moves = random_table(source, 200, 0)[0]
        for told in (
            (moves, (False,) * 200), (moves, (False,) * 199 + (True,)), ring(200, (150,)), counter("y.u", 199), counter("e.takep", 199),
        ):
            begun = time.monotonic()
            least_steps(LARGE, told)
            keeps(LARGE, told)
            refusal(breaking, LARGE, told)
            self.assertLess(time.monotonic() - begun, 12)


def play_freely(program, choices):
    """The events of a play, however many choices and things it has."""
    things = Things(None)
    laid = laid_out(program)
    place = first_place(program)
    rest = list(choices)
    while place != end_of(program):
        statement, behind = laid[place]
        choice = 0
        if statement[0] in ("loop", "either", "take"):
            if not rest:
                break
            choice = rest.pop(0)
        if statement[0] in ("loop", "either"):
            place = ways(place, statement, behind)[choice]
        else:
            things.do(statement, choice)
            place = behind
    return things.events


class TestBreaking(unittest.TestCase):
    def test_example(self):
        self.assertEqual(breaking(EXAMPLE, NEW), ((), 0, 1))
        self.assertEqual(breaking(EXAMPLE, YOUNGER_ENDS), ((), 0, 1))
        self.assertEqual(breaking(EXAMPLE_A, TAKEN_AHEAD), ((1, 0, 1, 2), 0, 1))

    def test_kinds_of_values(self):
        got = breaking(EXAMPLE_A, TAKEN_AHEAD)
        self.assertIs(got.__class__, tuple)
        self.assertEqual([one.__class__ for one in got], [tuple, int, int])
        self.assertEqual({one.__class__ for one in got[0]}, {int})

    def test_kept(self):
        self.assertEqual(refusal(breaking, EXAMPLE, NONE), ("Kept", 0))
        self.assertEqual(refusal(breaking, (), ALL), ("Kept", 0))
        self.assertEqual(refusal(breaking, EXAMPLE, ends_with("e.end")), ("Kept", 0))

    def test_the_number_of_the_taken_thing(self):
        # Seven things lie in the pile; the pair is of the fourth one and a later one, by what went ahead.
        many = (NEW_A, ("put", "a", "p")) * 3
        program = many + (NEW_A, U, ("put", "a", "p")) + many + (("take", "p", "b"), ("do", "v", "b"))
        choices, i, j = breaking(program, ends_with("e.v"))
        self.assertEqual((choices, i, j), ((i + 1,), 0, 1) if i == 0 else ((i + 1,), i, i + 1))
        told = table(("then", "e.u", ("then", STAR, "e.v")))
        self.assertEqual(breaking(program, told), ((4,), 3, 4))
        told = table(("then", STAR, ("then", "y.u", ("then", STAR, "y.v"))))
        self.assertEqual(breaking(program, told), ((4,), 0, 3))

    def test_other_things_in_the_pile_that_are_taken_and_not(self):
        program = (("loop", (NEW_A, ("put", "a", "p"))), ("take", "p", "b"), ("take", "p", "c"), ("do", "u", "b"), ("do", "v", "c"))
        for told, taken in (
            (ends_with("e.u", "y.v"), (1, 1)), (ends_with("y.u", "e.v"), (2, 1)), (ends_with("e.takep", "y.takep", "e.u"), (1, 1)),
            (ends_with("y.takep", "e.takep", "y.u"), (2, 1)),
        ):
            choices, i, j = breaking(program, told)
            self.assertEqual((choices, i, j), ((1, 1, 0) + taken, 0, 1))

    def test_the_pile_of_the_take(self):
        program = (NEW_A, ("put", "a", "q"), NEW_A, ("put", "a", "p"), NEW_A, ("put", "a", "q"), ("take", "q", "d"), ("end", "d"))
        self.assertEqual(breaking(program, ends_with("e.end")), ((1,), 0, 1))
        self.assertEqual(breaking(program, table(("then", STAR, ("then", "y.putq", ("then", STAR, "y.end"))))), ((2,), 0, 2))

    def test_a_take_that_breaks_by_what_it_ends(self):
        program = (NEW_A, ("new", "b"), ("put", "a", "p"), ("take", "p", "b"))
        choices, i, j = breaking(program, ends_with("y.end"))
        self.assertEqual((len(choices), i, j), (1, 0, 1))
        self.assertEqual(breaks_at(program, ends_with("y.end"), choices), (4, 0, 1))
        self.assertIsNone(breaks_at(program, ends_with("y.end"), ()))

    def test_loops_in_loops_and_eithers_in_loops(self):
        program = (("loop", (("loop", (NEW_A, ("either", (("put", "a", "p"),), (("put", "a", "q"),)))), (
            "loop", (("either", (("take", "p", "b"),), (("take", "q", "b"),)), ("do", "u", "b"), ("put", "b", "q"))))),)
        for told in (
            ends_with("e.u"), ends_with("e.u", "e.putq", "y.takep"), ends_with("e.u", "e.putq", "y.takeq"),
            ends_with("y.u", "y.putq", "y.takeq", "y.u", "y.putq"), table(("then", "e.putp", ("then", "y.new", ("then", "y.putq", (
                "then", "y.takeq", ("then", "y.u", ("then", "y.putq", "e.takep"))))))),
        ):
            choices, i, j = breaking(program, told)
            self.assertEqual(breaks_at(program, told, choices), (least_steps(program, told), i, j))
            self.assertIsNone(breaks_at(program, told, choices[:-1]))

    def test_another_pair_may_break_ahead_of_the_one_that_was_watched(self):
        # The new thing ends what a holds, by which the pair of the two first ones breaks the table; the watched pair
        # may be another one, whose younger thing is just made.
        program = (NEW_A, ("new", "b"), NEW_A)
        told = table(("or", ("then", STAR, ("then", "y.new", "e.end")), ("then", "e.end", "y.new")))
        self.assertEqual(breaking(program, told), ((), 0, 1))
        self.assertEqual(breaks_at(program, told, ()), (3, 0, 1))

    def test_rounds_without_end_ahead(self):
        program = (NEW_A, ("new", "b"), ("loop", (("loop", (("loop", ()),)),)), ("end", "b"))
        self.assertEqual(breaking(program, YOUNGER_ENDS), ((0,), 0, 1))

    def test_more_than_can_be_handed_in(self):
        # Each round makes two things, and 199 rounds are needed: 399 things.
        program = (NEW_A, ("loop", (("new", "b"), ("new", "c"), U)))
        told = counter("e.u", 199)
        choices, i, j = breaking(program, told)
        self.assertEqual((choices, i, j), ((1,) * 199, 0, 1))
        self.assertEqual(slow_last(told, play_freely(program, choices), (i, j)), least_steps(program, told))
        # Many choices in each round.
        program = (NEW_A, ("new", "b"), ("loop", (("take", "q", "c"),) * 30 + (U,)))
        choices, i, j = breaking(program, told)
        self.assertEqual((choices, i, j), (((1,) + (0,) * 30) * 199, 0, 1))
        self.assertIsNone(breaks_at(program, told, choices))

    def test_it_takes_no_time(self):
        source = random.Random(70)
        for _ in range(12):
            words = []
            while not words:
                words = met_words(source, LARGE, 80)
            told = word_table(max(words, key=len)[:198])
            begun = time.monotonic()
            choices, i, j = breaking(LARGE, told)
            self.assertEqual(breaks_at(LARGE, told, choices), (least_steps(LARGE, told), i, j))
            self.assertLess(time.monotonic() - begun, 10)


def slow_last(told, events, pair):
    """The step of the last event, if it is the first one at which the pair breaks the table."""
    i, j = pair
    own = [event for event in events if event[2] in (i, j)]
    found = slow_break(told, [(step, deed, (i, j).index(thing)) for step, deed, thing in own])
    return found[0] if own and events[-1] == own[-1] and found == (events[-1][0], 0, 1) else None


if __name__ == "__main__":
    unittest.main()
