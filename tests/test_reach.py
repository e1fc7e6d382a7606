import random
import time
import unittest

from anytwo.layouts import first_place
from anytwo.places import places
from anytwo.programs import made_program
from anytwo.reach import reach
from anytwo.walker import steps_of
from helpers import odd_values, refusal
from made_programs import EXAMPLE, EXAMPLE_A, LARGE, NAMES, PILES, random_program

WHERES = (None, "a", "b", "c", "d", "p", "q", "x")
NEW_A = ("new", "a")


class TestReach(unittest.TestCase):
    def good(self, program):
        got = reach(program)
        self.assertIs(got.__class__, tuple)
        first = (first_place(program), None, None)
        order = places(program)
        keys = [(order.index(place), WHERES.index(elder), WHERES.index(younger)) for place, elder, younger in got]
        self.assertTrue(all(one < two for one, two in zip(keys, keys[1:])))
        met = {first}
        open_ones = [first]
        while open_ones:
            for _, behind in steps_of(program, open_ones.pop()):
                if behind not in met:
                    met.add(behind)
                    open_ones.append(behind)
        self.assertEqual(set(got), met)
        self.assertEqual(len(got), len(met))
        self.assertIn(first, got)
        return got

    def test_by_name(self):
        self.assertEqual(reach(program=()), (((0,), None, None),))

    def test_example(self):
        self.assertEqual(
            self.good((NEW_A, NEW_A)),
            (
                ((0,), None, None), ((1,), None, None), ((1,), "a", None), ((2,), None, None), ((2,), "a", None),
                ((2,), "x", None), ((2,), "x", "a"),
            ),
        )

    def test_empty(self):
        self.assertEqual(self.good(()), (((0,), None, None),))

    def test_no_things(self):
        self.assertEqual(
            self.good((("do", "u", "a"), ("take", "p", "b"))), (((0,), None, None), ((1,), None, None), ((2,), None, None))
        )

    def test_empty_bodies(self):
        self.assertEqual(self.good((("loop", ()),)), (((0,), None, None), ((1,), None, None)))
        self.assertEqual(self.good((("either", (), ()),)), (((0,), None, None), ((1,), None, None)))
        self.assertEqual(
            self.good((("either", (), (NEW_A,)),)),
            (((0,), None, None), ((0, 1, 0), None, None), ((1,), None, None), ((1,), "a", None)),
        )

    def test_place_then_elder_then_younger(self):
        got = self.good((("loop", (NEW_A, ("either", (("put", "a", "p"),), (("take", "p", "b"), ("put", "b", "q"))))),))
        at_the_end = [two for place, *two in got if place == (1,)]
        self.assertEqual(at_the_end, [[elder, younger] for elder in WHERES for younger in WHERES if [elder, younger] in at_the_end])
        self.assertGreater(len(at_the_end), 12)
        self.assertEqual([place for place, *_ in got], sorted([place for place, *_ in got]))

    def test_example_a(self):
        got = self.good(EXAMPLE_A)
        self.assertIn(((0, 2), "b", "p"), got)
        self.assertIn(((1,), "p", "p"), got)
        self.assertIn(((1,), "p", "b"), got)
        # Nothing is in a when the loop is come back to, and nothing lies in q.
        self.assertFalse([state for state in got if state[0] in ((0,), (1,)) and "a" in state])
        self.assertFalse([state for state in got if "q" in state or "c" in state])

    def test_a_name_is_left_by_all_that_it_held(self):
        got = self.good((("loop", (NEW_A, ("move", "a", "b"))),))
        self.assertEqual([two for _, *two in got if two == ["b", "b"]], [])
        self.assertIn(((0,), "x", "b"), got)
        self.assertNotIn(((0,), "a", None), got)

    def test_at_random(self):
        source = random.Random(55)
        sizes = [len(self.good(made_program(random_program(source, source.randint(0, 25), 6, NAMES)))) for _ in range(60)]
        self.assertGreater(max(sizes), 200)

    def test_a_large_one_takes_no_time(self):
        made_program(LARGE)
        self.assertEqual(len(places(LARGE)), 41)
        begun = time.monotonic()
        got = reach(LARGE)
        self.assertLess(time.monotonic() - begun, 3)
        self.assertGreater(len(got), 1000)
        self.good(LARGE)

    def test_others_take_no_time(self):
        wide = tuple(("take", p, x) for p in PILES for x in NAMES) + tuple(("put", x, p) for p in PILES for x in NAMES)
        wide += tuple(("new", x) for x in NAMES) + tuple(("move", x, y) for x in NAMES for y in NAMES)
        for program in (
            (("loop", wide),), wide, EXAMPLE, (("loop", (("loop", (("loop", (("loop", wide),)),)),)),), (("loop", ()),) * 40,
            tuple(("either", (one,), ()) for one in wide[:20]),
        ):
            begun = time.monotonic()
            reach(program)
            self.assertLess(time.monotonic() - begun, 3)

    def test_errors_of_the_program(self):
        for thing in odd_values():
            self.assertEqual(refusal(reach, thing), refusal(made_program, thing))
        self.assertEqual(refusal(reach, (NEW_A, ("loop", (None,)))), ("BadProgram", (1, 0)))
        self.assertEqual(refusal(reach, (NEW_A,) * 41), ("TooMany", 41))


if __name__ == "__main__":
    unittest.main()
