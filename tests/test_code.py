import random
import unittest

from anytwo.code import compiled
from anytwo.coderows import made_code
from anytwo.programs import made_program
from helpers import odd_values, refusal
from made_code import decompiled
from made_programs import EXAMPLE, LARGE, lively_program, random_program

U = ("do", "u", "a")
V = ("do", "v", "a")
W = ("do", "w", "a")
STOP = ("stop",)


def rows_for(body):
    """How many rows the statements of a body have: a loop and an either one more than others, for their jump."""
    many = 0
    for one in body:
        many += 1
        if one[0] in ("loop", "either"):
            many += 1 + sum(rows_for(inner) for inner in one[1:])
    return many


class TestCompiled(unittest.TestCase):
    def good(self, program):
        code = compiled(program)
        self.assertIs(code.__class__, tuple)
        self.assertEqual(decompiled(code), program)
        self.assertEqual(len(code), rows_for(program) + 1)
        self.assertIs(made_code(code), code)
        return code

    def test_by_name(self):
        self.assertEqual(compiled(program=()), (STOP,))

    def test_examples(self):
        self.assertEqual(self.good((("loop", (U,)),)), (("loop", 3), U, ("jump", 0), STOP))
        self.assertEqual(self.good((("either", (U,), (V,)),)), (("either", 3), U, ("jump", 4), V, STOP))

    def test_one_statement_behind_the_other(self):
        self.assertEqual(self.good(()), (STOP,))
        self.assertEqual(self.good(EXAMPLE), EXAMPLE + (STOP,))
        self.assertEqual(self.good((U,) * 40), (U,) * 40 + (STOP,))

    def test_empty_bodies(self):
        self.assertEqual(self.good((("loop", ()),)), (("loop", 2), ("jump", 0), STOP))
        self.assertEqual(self.good((("either", (), ()),)), (("either", 2), ("jump", 2), STOP))
        self.assertEqual(self.good((("either", (U,), ()),)), (("either", 3), U, ("jump", 3), STOP))
        self.assertEqual(self.good((("either", (), (U,)),)), (("either", 2), ("jump", 3), U, STOP))
        self.assertEqual(
            self.good((W, ("loop", ()), ("either", (), ()), W)), (W, ("loop", 3), ("jump", 1), ("either", 5), ("jump", 5), W, STOP)
        )

    def test_loops_in_loops(self):
        self.assertEqual(
            self.good((U, ("loop", (V, ("loop", (W,)), V)), U)),
            (U, ("loop", 8), V, ("loop", 6), W, ("jump", 3), V, ("jump", 1), U, STOP),
        )
        self.assertEqual(self.good((("loop", (("loop", ()),)),)), (("loop", 4), ("loop", 3), ("jump", 1), ("jump", 0), STOP))

    def test_eithers_in_eithers(self):
        inner = ("either", (U,), (V,))
        self.assertEqual(
            self.good((("either", (inner,), (inner, W)), U)),
            (("either", 6), ("either", 4), U, ("jump", 5), V, ("jump", 11), ("either", 9), U, ("jump", 10), V, W, U, STOP),
        )
        self.assertEqual(
            self.good((("either", (), (("either", (), ()),)),)), (("either", 2), ("jump", 4), ("either", 4), ("jump", 4), STOP)
        )

    def test_loops_and_eithers_in_each_other(self):
        self.assertEqual(
            self.good((("loop", (("either", (("loop", (U,)),), ()),)),)),
            (("loop", 7), ("either", 6), ("loop", 5), U, ("jump", 2), ("jump", 6), ("jump", 0), STOP),
        )
        self.good(LARGE)

    def test_random_programs(self):
        source = random.Random(101)
        for _ in range(300):
            self.good(random_program(source, source.randint(0, 38), 6))
            self.good(lively_program(source, source.randint(0, 30), 5))

    def test_errors(self):
        for thing in odd_values():
            if thing != ():
                self.assertEqual(refusal(compiled, thing), refusal(made_program, thing))
        self.assertEqual(refusal(compiled, (U, ("loop", (("loop", 3),)))), ("BadProgram", (1, 0)))
        self.assertEqual(refusal(compiled, (U,) * 41), ("TooMany", 41))
        body = ()
        for _ in range(6):
            body = (("loop", body),)
        self.assertEqual(refusal(compiled, body), ("TooMany", 7))


if __name__ == "__main__":
    unittest.main()
