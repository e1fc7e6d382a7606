import random
import time
import unittest

from anytwo.alikes import alike, part_of, parting
from anytwo.letters import LETTERS
from anytwo.programs import is_program, made_program
from anytwo.programtables import program_table, tightest
from anytwo.tables import table
from anytwo.tablesums import implies, joined, word_table
from anytwo.verdicts import keeps
from expressions import breaks, random_rule
from helpers import odd_values, refusal
from made_programs import EXAMPLE, EXAMPLE_A, LARGE, MANY_STATES, STATES_199, STATES_200, Walks, behind, lively_program
from made_programs import random_program
from made_tables import NONE, random_table

NEW_A = ("new", "a")
NEW_B = ("new", "b")
U = ("do", "u", "a")
FUNCTIONS = (alike, parting, part_of)


def order_of(word):
    return (len(word), [LETTERS.index(letter) for letter in word])


def renamed(body, names):
    """The same with other names."""
    found = []
    for one in body:
        if one[0] == "loop":
            found.append(("loop", renamed(one[1], names)))
        elif one[0] == "either":
            found.append(("either", renamed(one[1], names), renamed(one[2], names)))
        else:
            found.append((one[0],) + tuple(names.get(part, part) for part in one[1:]))
    return tuple(found)


def changed(source, body):
    """The same program with one statement struck, or one more, or one branch made, somewhere in its own body."""
    at = source.randint(0, len(body))
    one = source.choice((NEW_A, U, ("end", "b"), ("put", "a", "p"), ("take", "p", "b"), ("move", "a", "b"), ("move", "a", "a")))
    if source.random() < 0.3:
        return body[:at] + body[at + 1:]
    if source.random() < 0.5:
        return body[:at] + (("either", body[at:at + 1], ()),) + body[at + 1:]
    return body[:at] + (one,) + body[at:]


def drawn_pairs(seed, many):
    """Pairs of programs, near each other for the most part."""
    source = random.Random(seed)
    found = []
    for _ in range(many):
        one = lively_program(source, source.randint(1, 8), 3)
        two = source.choice((changed(source, one), changed(source, changed(source, one)), lively_program(source, 3, 2)))
        found.append((one, two))
    return found


class TestAlikes(unittest.TestCase):
    def good(self, one, two):
        """What the three functions tell, beside each other and beside the two tables."""
        tables = (program_table(one), program_table(two))
        self.assertIs(alike(one, two), tables[0] == tables[1])
        self.assertIs(part_of(one, two), joined(tables[0], tables[1], "less") == NONE)
        self.assertIs(part_of(two, one), joined(tables[1], tables[0], "less") == NONE)
        self.assertEqual(alike(one, two), part_of(one, two) and part_of(two, one))
        got = parting(one, two)
        self.assertEqual(got is None, alike(one, two))
        if got is None:
            self.assertIsNone(parting(two, one))
            return None
        word, which = got
        self.assertIs(got.__class__, tuple)
        self.assertIs(which.__class__, int)
        self.assertEqual(parting(two, one), (word, 1 - which))
        self.assertEqual([breaks(told, word) for told in tables], [which == 0, which == 1])
        both = (one, two)
        self.assertTrue(Walks(both[which]).reads(word))
        self.assertFalse(Walks(both[1 - which]).reads(word))
        self.assertFalse(keeps(both[which], word_table(word)))
        self.assertTrue(keeps(both[1 - which], word_table(word)))
        return got

    def test_by_name(self):
        self.assertIs(alike(one=EXAMPLE, two=EXAMPLE), True)
        self.assertIs(part_of(one=(), two=EXAMPLE), True)
        self.assertEqual(parting(one=(), two=EXAMPLE), (("y.new",), 1))

    def test_examples(self):
        self.assertIsNone(self.good((NEW_A, NEW_A), (NEW_A, ("end", "a"), NEW_A)))
        self.assertIsNone(self.good((("loop", (NEW_A,)),), (("loop", (NEW_A, ("end", "a"))),)))
        self.assertEqual(self.good((NEW_A, NEW_B), (NEW_A, NEW_A)), (("y.new",), 0))
        self.assertEqual(self.good((NEW_A, NEW_A), (NEW_A, NEW_B)), (("y.new",), 1))

    def test_the_first_word_is_of_the_second_program(self):
        # y.new e.u is one of both, y.new e.v of the second one alone, y.new y.u of the first one alone.
        one = (NEW_A, NEW_B, ("either", (U,), (("do", "u", "b"),)))
        two = (NEW_A, NEW_B, ("either", (U,), (("do", "v", "a"),)))
        self.assertEqual(self.good(one, two), (("y.new", "e.v"), 1))
        # A shorter word comes ahead of one that is earlier by its letters.
        self.assertEqual(self.good((NEW_A, U, U, NEW_B), (NEW_A, U, NEW_B)), (("e.u", "y.new"), 1))
        one = (NEW_A, U, NEW_B, ("do", "v", "b"))
        two = (NEW_A, U, NEW_B, ("end", "a"))
        self.assertEqual(self.good(one, two), (("e.u", "y.new", "e.end"), 1))
        self.assertEqual(self.good((NEW_A, NEW_B, U, U), (NEW_A, NEW_B, ("do", "w", "b"))), (("y.new", "e.u"), 0))

    def test_no_pair_words(self):
        for one in ((), (NEW_A,), (U,), (("loop", ()),)):
            for two in ((), (NEW_B, U, U), (("either", (NEW_A,), (NEW_A,)),)):
                self.assertIsNone(self.good(one, two))
            self.assertEqual(self.good(one, (NEW_A, NEW_A)), (("e.end", "y.new"), 1))
            self.assertIs(part_of(one, EXAMPLE), True)
            self.assertIs(part_of(EXAMPLE, one), False)

    def test_drawn_pairs(self):
        found = [self.good(one, two) for one, two in drawn_pairs(91, 150)]
        self.assertGreater(found.count(None), 20)
        for which in (0, 1):
            self.assertGreater(len({got[0] for got in found if got is not None and got[1] == which}), 10)

    def test_parting_beside_all_rows(self):
        many = 0
        for one, two in drawn_pairs(92, 150):
            rows = [{row for row in Walks(program).rows(5) if "y.new" in row} for program in (one, two)]
            apart = sorted(rows[0] ^ rows[1], key=order_of)
            if apart:
                self.assertEqual(parting(one, two), (apart[0], 0 if apart[0] in rows[0] else 1))
                many += 1
            elif parting(one, two) is not None:
                self.assertGreater(len(parting(one, two)[0]), 5)
            if rows[0] - rows[1]:
                self.assertIs(part_of(one, two), False)
        self.assertGreater(many, 50)

    def test_the_same_tables_are_kept_just_by_those_that_are_alike(self):
        source = random.Random(93)
        letters = ["e.end", "e.u", "y.u", "y.end", "e.putp", "y.putp", "y.takep", "y.new"]
        for one, two in drawn_pairs(94, 60):
            tables = [random_table(source, source.randint(1, 5), 0.2) for _ in range(3)]
            tables += [table(random_rule(source, 9, source.sample(letters, 4) + ["y.new"])) for _ in range(3)]
            tables += [tightest(one), tightest(two)]
            kept = [(keeps(one, told), keeps(two, told)) for told in tables]
            if alike(one, two):
                self.assertTrue(all(first == second for first, second in kept))
            if part_of(one, two):
                self.assertFalse((False, True) in kept)
            self.assertEqual(alike(one, two), kept[-2:] == [(True, True), (True, True)])
            self.assertEqual(part_of(one, two), kept[-1] == (True, True))
            self.assertEqual(part_of(one, two), implies(tightest(one), tightest(two)))

    def test_part_of_itself(self):
        source = random.Random(95)
        for _ in range(40):
            one = lively_program(source, source.randint(1, 10), 4)
            more = random_program(source, source.randint(1, 8), 3)
            self.assertIsNone(self.good(one, one))
            self.assertIs(part_of(one, one), True)
            # With statements behind all a play can do all that it did.
            self.assertIs(part_of(one, one + more), True)
            self.good(one, one + more)

    def test_part_of_a_program_with_a_branch(self):
        source = random.Random(96)
        falses = 0
        for _ in range(60):
            first = random_program(source, source.randint(1, 5), 2)
            second = random_program(source, source.randint(0, 5), 2)
            before = (("loop", (NEW_A, ("put", "a", "p"))), ("take", "p", "b"))
            whole = before + (("either", first, second), ("do", "w", "b"))
            for way in (first, second):
                one = before + way + (("do", "w", "b"),)
                self.assertIs(part_of(one, whole), True)
                falses += not part_of(whole, one)
                self.good(one, whole)
            looped = before + (("loop", first), ("do", "w", "b"))
            self.assertIs(part_of(before + first + (("do", "w", "b"),), looped), True)
            self.assertIs(part_of(before + (("do", "w", "b"),), looped), True)
        self.assertGreater(falses, 40)

    def test_names_exchanged(self):
        source = random.Random(97)
        for _ in range(40):
            one = lively_program(source, source.randint(1, 10), 4, ("a", "b", "c"))
            two = renamed(one, {"a": "d", "b": "a", "c": "b"})
            self.assertIsNone(self.good(one, two))
        # Piles are told by letters, and so are own words.
        one = (NEW_A, ("put", "a", "p"), NEW_A)
        self.assertEqual(self.good(one, renamed(one, {"p": "q"})), (("e.putp", "y.new"), 0))
        self.assertEqual(self.good((NEW_A, U, NEW_A), (NEW_A, ("do", "v", "a"), NEW_A)), (("e.u", "e.end", "y.new"), 0))

    def test_errors_in_their_order(self):
        bad = (NEW_A, ("loop", (3,)))
        for function in FUNCTIONS:
            self.assertEqual(refusal(function, bad, (None,)), ("BadProgram", (1, 0)))
            self.assertEqual(refusal(function, (NEW_A,) * 41, bad), ("TooMany", 41))
            self.assertEqual(refusal(function, EXAMPLE, bad), ("BadProgram", (1, 0)))
            self.assertEqual(refusal(function, EXAMPLE, (NEW_A,) * 41), ("TooMany", 41))
            # The errors of made_program come ahead of those of the tables.
            self.assertEqual(refusal(function, MANY_STATES, bad), ("BadProgram", (1, 0)))
            self.assertEqual(refusal(function, MANY_STATES, (NEW_A,) * 41), ("TooMany", 41))
            self.assertEqual(refusal(function, bad, MANY_STATES), ("BadProgram", (1, 0)))
            self.assertEqual(refusal(function, MANY_STATES, EXAMPLE), ("TooMany", 201))
            self.assertEqual(refusal(function, EXAMPLE, MANY_STATES), ("TooMany", 201))
            self.assertEqual(refusal(function, MANY_STATES, MANY_STATES), ("TooMany", 201))
            for thing in odd_values():
                if not is_program(thing):
                    told = refusal(made_program, thing)
                    self.assertEqual(refusal(function, thing, None), told)
                    self.assertEqual(refusal(function, EXAMPLE, thing), told)
                    self.assertEqual(refusal(function, MANY_STATES, thing), told)

    def test_the_limit(self):
        self.assertIsNone(self.good(STATES_200, STATES_200))
        self.assertIs(alike(STATES_199, STATES_200), False)
        word, which = parting(STATES_199, STATES_200)
        self.assertEqual([Walks(one).reads(word) for one in (STATES_199, STATES_200)], [which == 0, which == 1])
        self.assertIs(part_of(STATES_199, STATES_200), False)

    def test_it_takes_no_time(self):
        for one in (LARGE, EXAMPLE_A, STATES_199, STATES_200, behind(6, (("do", "w", "a"),)), behind(9, ())):
            for two in (LARGE, STATES_200, behind(6, (("do", "w", "b"),)), behind(9, ())):
                for function in FUNCTIONS:
                    begun = time.monotonic()
                    refusal(function, one, two)
                    self.assertLess(time.monotonic() - begun, 10)


if __name__ == "__main__":
    unittest.main()
