import random
import time
import unittest

from anytwo.letters import LETTERS
from anytwo.lots import table_of_lots
from anytwo.programs import is_program, made_program
from anytwo.programtables import program_table, tightest
from anytwo.tables import least, table
from anytwo.tablesums import apart, implies, joined, word_table
from anytwo.verdicts import keeps
from expressions import breaks, led, random_rule, random_word
from helpers import odd_values, refusal
from made_programs import EXAMPLE, EXAMPLE_A, LARGE, MANY_STATES, STATES_199, STATES_200, Walks, behind, lively_program
from made_programs import pair_words_of, plays_of, random_program
from made_tables import NONE, random_table, row, slow_least

NEW_A = ("new", "a")
NEW_B = ("new", "b")
U = ("do", "u", "a")
# A loop in which nearly all is possible: each name and each pile.
ALL_DEEDS = (("loop", (("either", (NEW_A,), (("either", (("put", "a", "p"),), (("take", "p", "a"),)),)), ("move", "a", "b"),
    ("either", (("put", "b", "q"),), (("take", "q", "a"),)), ("either", (("do", "u", "a"),), (("end", "b"),)))),)


def words_that_break(told, most):
    """All words of up to so many letters that break a least table, shortest first."""
    # A state is dead if it leads to itself alone and is not bad: nothing that goes there breaks the table.
    moves, bad = told
    dead = {state for state in range(len(bad)) if moves[state] == (state,) * 17 and not bad[state]}
    found = [()]
    for word in found:
        if len(word) < most:
            state = led(told, word)
            found += [word + (letter,) for k, letter in enumerate(LETTERS) if moves[state][k] not in dead]
    return [word for word in found if breaks(told, word)]


def without_loops(body):
    """The same with an either for each loop, which goes through the loop's body once or not at all."""
    found = []
    for one in body:
        if one[0] in ("loop", "either"):
            found.append(("either", without_loops(one[1]), without_loops(one[2]) if one[0] == "either" else ()))
        else:
            found.append(one)
    return tuple(found)


class TestProgramTable(unittest.TestCase):
    def good(self, program, most):
        """The table, beside all rows of up to so many letters that are read on walks."""
        told = program_table(program)
        self.assertEqual(least(told), told)
        rows = Walks(program).rows(most)
        self.assertEqual(words_that_break(told, most), [word for word in rows if "y.new" in word])
        return told

    def test_by_name(self):
        self.assertEqual(program_table(program=()), NONE)

    def test_two_things(self):
        told = self.good((NEW_A, NEW_B), 3)
        self.assertEqual(told, ((row(1, y_new=2), row(1), row(1)), (False, False, True)))

    def test_the_first_one_ends_ahead_of_the_second_one(self):
        told = self.good((NEW_A, NEW_A), 4)
        self.assertEqual(told, word_table(("e.end", "y.new")))
        self.assertEqual(words_that_break(told, 5), [("e.end", "y.new")])

    def test_two_sorts_of_pairs(self):
        told = self.good((NEW_A, ("loop", (NEW_B, U))), 5)
        e_u = ("star", "e.u")
        first = ("then", e_u, ("then", "y.new", ("or", ("nothing",), ("or", "e.u", ("then", "e.u", ("then", "y.end", e_u))))))
        both = ("then", "e.end", ("then", "y.new", ("or", ("nothing",), "y.end")))
        self.assertEqual(told, table(("or", first, both)))

    def test_no_pairs(self):
        for program in ((), (NEW_A,), (("loop", (U, ("take", "p", "a"))),), (("either", (NEW_A,), (NEW_B,)),), (NEW_A, U, ("end", "a"))):
            self.assertEqual(self.good(program, 2), NONE)

    def test_example_words(self):
        self.assertEqual(
            words_that_break(self.good(EXAMPLE, 4), 4), [("y.new",), ("y.new", "e.u"), ("y.new", "e.u", "y.end")]
        )

    def test_between_two_letters_of_one_step(self):
        # The take that ends b's thing: y.end is a pair word by itself, also where another thing is taken behind it.
        program = (NEW_A, ("put", "a", "p"), NEW_B, ("take", "p", "b"))
        got = words_that_break(self.good(program, 5), 5)
        made = ("e.putp", "y.new")
        self.assertEqual(got, [made, made + ("y.end",), made + ("y.end", "e.takep")])
        # The younger thing lies in the pile, and the elder one ends as it is taken.
        program = (NEW_A, NEW_B, ("put", "b", "p"), ("take", "p", "a"))
        got = words_that_break(self.good(program, 5), 5)
        made = ("y.new", "y.putp")
        self.assertEqual(got, [("y.new",), made, made + ("e.end",), made + ("e.end", "y.takep")])

    def test_a_word_may_end_with_the_making(self):
        for program in ((NEW_A, NEW_B), (NEW_A, NEW_A), (NEW_A, U, ("loop", (NEW_B,))), (("loop", (NEW_A, ("put", "a", "p"))),)):
            words = words_that_break(self.good(program, 4), 4)
            self.assertEqual(words[0][-1], "y.new")

    def test_loops_that_make_things(self):
        told = self.good((("loop", (NEW_A,)),), 4)
        self.assertEqual(words_that_break(told, 5), [("e.end", "y.new"), ("e.end", "y.new", "y.end")])
        told = self.good((("loop", (NEW_A, ("put", "a", "p"))),), 4)
        self.assertEqual(words_that_break(told, 5), [("e.putp", "y.new"), ("e.putp", "y.new", "y.putp")])
        self.good((("loop", (NEW_A, ("loop", (NEW_B, ("move", "b", "a"))))),), 5)
        self.good(EXAMPLE_A, 5)

    def test_eithers_with_empty_bodies(self):
        told = self.good((NEW_A, ("either", (), (U,)), NEW_B, ("either", (("do", "v", "b"),), ()), ("either", (), ())), 4)
        self.assertEqual(words_that_break(told, 4), [
            ("y.new",), ("e.u", "y.new"), ("y.new", "y.v"), ("e.u", "y.new", "y.v"),
        ])
        told = self.good((NEW_A, ("loop", ()), NEW_B), 3)
        self.assertEqual(told, program_table((NEW_A, NEW_B)))

    def test_all_plays_of_programs_without_loops(self):
        source = random.Random(81)
        words = set()
        for _ in range(500):
            program = without_loops(random_program(source, source.randint(5, 14), 3, ("a", "b", "c")))
            found = set()
            for _, (events, *_) in plays_of(program, 40):
                found |= pair_words_of(events)
            self.assertEqual(set(words_that_break(self.good(program, 12), 40)), found)
            words |= found
        self.assertGreater(len(words), 100)

    def test_all_short_plays(self):
        source = random.Random(82)
        many = 0
        for _ in range(120):
            program = lively_program(source, source.randint(5, 12), source.choice((2, 3)), ("a", "b", "c"))
            told = program_table(program)
            found = set()
            for _, (events, *_) in plays_of(program, 7):
                found |= pair_words_of(events)
            for word in found:
                self.assertTrue(breaks(told, word))
            many += len(found)
        self.assertGreater(many, 1000)

    def test_rows_that_the_walker_reads(self):
        source = random.Random(83)
        for _ in range(60):
            program = lively_program(source, source.randint(2, 9), 3, ("a", "b", "c", "d")[:source.randint(1, 4)])
            self.good(program, 4)

    def test_long_rows(self):
        source = random.Random(84)
        kept = 0
        for _ in range(60):
            program = lively_program(source, source.randint(6, 25), 5, ("a", "b", "c"))
            if not is_program(program):
                continue
            told = program_table(program)
            walks = Walks(program)
            for _ in range(5):
                word, lot = (), walks.first
                for _ in range(15):
                    heads = walks.heads(lot)
                    word += (source.choice(heads if heads and source.random() < 0.95 else LETTERS),)
                    lot = walks.led(lot, word[-1])
                    self.assertEqual(breaks(told, word), "y.new" in word and bool(lot))
                    kept += breaks(told, word)
        self.assertGreater(kept, 100)

    def test_it_is_the_least(self):
        source = random.Random(85)
        for _ in range(25):
            program = lively_program(source, source.randint(2, 7), 2)
            moves, bad = table_of_lots(program)
            if len(bad) < 25:
                self.assertEqual(program_table(program), slow_least((tuple(moves), tuple(bad))))

    def test_the_limit(self):
        self.assertEqual(len(program_table(STATES_199)[1]), 199)
        self.assertEqual(len(program_table(STATES_200)[1]), 200)
        self.assertEqual(least(program_table(STATES_200)), program_table(STATES_200))
        self.assertEqual(len(program_table(behind(6, (("do", "w", "a"),)))[1]), 131)
        self.assertEqual(refusal(program_table, MANY_STATES), ("TooMany", 201))
        self.assertEqual(refusal(tightest, MANY_STATES), ("TooMany", 201))

    def test_errors_in_their_order(self):
        for function in (program_table, tightest):
            self.assertEqual(refusal(function, MANY_STATES + (None,)), ("BadProgram", (len(MANY_STATES),)))
            self.assertEqual(refusal(function, MANY_STATES + (U,) * 12), ("TooMany", 41))
            self.assertEqual(refusal(function, (NEW_A,) * 41), ("TooMany", 41))
            self.assertEqual(refusal(function, (("loop", (("loop", (("loop", (("loop", (("loop", (("loop", ()),)),)),)),)),)),)), (
                "TooMany", 7))
            for thing in odd_values():
                self.assertEqual(refusal(function, thing), refusal(made_program, thing))

    def test_it_takes_no_time(self):
        # Some 2000 lots, of many places and of few.
        for program in (LARGE, behind(9, (("do", "w", "a"),)), behind(9, ()), ALL_DEEDS, ALL_DEEDS + behind(6, ())):
            begun = time.monotonic()
            refusal(program_table, program)
            refusal(tightest, program)
            self.assertLess(time.monotonic() - begun, 5)
        source = random.Random(86)
        begun = time.monotonic()
        for _ in range(50):
            program = lively_program(source, source.randint(20, 38), 6, ("a", "b", "c", "d"))
            refusal(program_table, program)
        self.assertLess(time.monotonic() - begun, 20)


class TestTightest(unittest.TestCase):
    def test_by_name(self):
        self.assertEqual(tightest(program=()), table(("then", ("star", ("any",)), ("then", "y.new", ("star", ("any",))))))

    def test_empty_program(self):
        told = tightest(())
        self.assertEqual(told, ((row(0, y_new=1), row(1)), (False, True)))

    def test_example(self):
        told = tightest((NEW_A, NEW_B))
        self.assertTrue(breaks(told, ("e.u", "y.new")))
        self.assertTrue(breaks(told, ("y.new", "e.u")))
        self.assertFalse(breaks(told, ("y.new",)))
        self.assertFalse(breaks(told, ("e.u",)))

    def test_beside_program_table(self):
        source = random.Random(87)
        for _ in range(60):
            program = lively_program(source, source.randint(2, 9), 3)
            told = tightest(program)
            self.assertEqual(least(told), told)
            words = program_table(program)
            every = table(("then", ("star", ("any",)), ("then", "y.new", ("star", ("any",)))))
            self.assertEqual(told, joined(every, words, "less"))
            self.assertEqual(joined(told, words, "and"), NONE)
            for _ in range(40):
                word = random_word(source, source.randint(0, 6), LETTERS)
                self.assertEqual(breaks(told, word), "y.new" in word and not breaks(words, word))
            for word in words_that_break(words, 4):
                self.assertFalse(breaks(told, word))
                for letter in LETTERS:
                    self.assertNotEqual(breaks(told, word + (letter,)), breaks(words, word + (letter,)))

    def test_the_program_keeps_it(self):
        source = random.Random(88)
        for program in [EXAMPLE, EXAMPLE_A, LARGE, (), ALL_DEEDS, (NEW_A,)]:
            self.assertTrue(keeps(program, tightest(program)))
        for _ in range(60):
            program = lively_program(source, source.randint(2, 15), 4, ("a", "b", "c"))
            self.assertTrue(keeps(program, tightest(program)))

    def test_it_keeps_just_what_tightest_implies(self):
        source = random.Random(89)
        letters = ["e.end", "e.u", "y.u", "y.end", "e.putp", "y.putp", "y.takep", "y.new"]
        answers = []
        for _ in range(60):
            program = lively_program(source, source.randint(2, 9), 3)
            told = tightest(program)
            words = program_table(program)
            tables = [random_table(source, source.randint(1, 4), 0.1), least(random_table(source, 4, 0.3, 8))]
            tables += [table(random_rule(source, source.randint(3, 12), source.sample(letters, 4) + ["y.new"])) for _ in range(4)]
            tables += [joined(one, words, "less") for one in tables]
            for one in tables:
                keeps_it = keeps(program, one)
                answers.append(keeps_it)
                self.assertEqual(implies(told, one), keeps_it)
                self.assertEqual(joined(words, one, "and") == NONE, keeps_it)
        self.assertGreater(answers.count(True), 100)
        self.assertGreater(answers.count(False), 100)

    def test_a_program_that_has_nearly_all_words(self):
        # Whatever two things may go through by these deeds: tightest is broken just where it cannot be.
        told = tightest(ALL_DEEDS)
        self.assertIsNone(apart(told, least(told)))
        for word in (("y.new",), ("e.putp", "y.new"), ("y.new", "e.u", "e.u", "y.u", "e.end"), ("e.u", "e.putq", "y.new", "y.end")):
            self.assertEqual(breaks(told, word), not Walks(ALL_DEEDS).reads(word))
        for word in (("y.new", "y.new"), ("y.u", "y.new"), ("y.new", "y.end", "y.end"), ("y.new", "e.takep"), ("e.v", "y.new")):
            self.assertTrue(breaks(told, word))

    def test_the_limit(self):
        # tightest parts what is lost by whether y.new was on the way: one state more.
        self.assertEqual(len(tightest(STATES_199)[1]), 200)
        self.assertEqual(len(program_table(STATES_200)[1]), 200)
        self.assertEqual(refusal(tightest, STATES_200), ("TooMany", 201))


if __name__ == "__main__":
    unittest.main()
