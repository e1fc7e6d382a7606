import unittest

from anytwo.programs import is_program, made_program
from helpers import deep, odd_values, refusal

U = ("do", "u", "a")
NAMES = ("a", "b", "c", "d")
PILES = ("p", "q")
OWN_WORDS = ("u", "v", "w")


def nested(depth, core=()):
    """A program that is so deep; core is its deepest body."""
    for _ in range(depth - 1):
        core = (("loop", core),)
    return core


class TestForms(unittest.TestCase):
    def let(self, thing):
        self.assertIs(made_program(thing), thing)
        self.assertIs(made_program(thing=thing), thing)
        self.assertIs(is_program(thing), True)
        self.assertIs(is_program(thing=thing), True)

    def refused(self, thing, name, what):
        self.assertEqual(refusal(made_program, thing), (name, what))
        self.assertIs(is_program(thing), False)

    def bad(self, statement):
        self.refused((statement,), "BadProgram", (0,))
        self.refused((U, U, statement, U), "BadProgram", (2,))

    def test_empty(self):
        self.let(())

    def test_each_kind_of_statement(self):
        for x in NAMES:
            self.let((("new", x),))
            self.let((("end", x),))
            for p in PILES:
                self.let((("put", x, p),))
                self.let((("take", p, x),))
            for y in NAMES:
                self.let((("move", x, y),))
            for w in OWN_WORDS:
                self.let((("do", w, x),))
        self.let((("loop", ()),))
        self.let((("loop", (U,)),))
        self.let((("either", (), ()),))
        self.let((("either", (U,), ()),))
        self.let((("either", (), (U, U)),))

    def test_one_program_of_all(self):
        self.let((
            ("new", "a"), ("put", "a", "p"), ("take", "p", "b"), ("move", "b", "c"), ("end", "c"),
            ("do", "w", "d"), ("loop", (("either", (("loop", ()),), (U,)), U)), ("either", (U,), (("new", "d"),)),
        ))

    def test_no_tuple(self):
        for thing in (None, True, False, 0, 1, 10 ** 5000, "", "new", "a"):
            self.refused(thing, "BadProgram", ())

    def test_a_statement_alone_is_no_program(self):
        self.refused(("new", "a"), "BadProgram", (0,))

    def test_words(self):
        for word in ("", "News", "NEW", "new ", "jump", "stop", "a", "u", "move2", None, True, False, 0, 1, (), ("new",)):
            self.bad((word,))
            self.bad((word, "a"))
            self.bad((word, "a", "p"))
            self.bad((word, ()))
            self.bad((word, (), ()))

    def test_names(self):
        for x in ("e", "", "A", "aa", "ab", "p", "u", "new", None, True, False, 0, 1, (), ("a",)):
            self.bad(("new", x))
            self.bad(("end", x))
            self.bad(("put", x, "p"))
            self.bad(("take", "p", x))
            self.bad(("move", x, "a"))
            self.bad(("move", "a", x))
            self.bad(("do", "u", x))

    def test_piles(self):
        for p in ("r", "", "P", "pq", "a", "u", None, True, False, 0, 1, (), ("p",)):
            self.bad(("put", "a", p))
            self.bad(("take", p, "a"))

    def test_own_words(self):
        for w in ("x", "", "U", "uv", "a", "p", "putp", "end", None, True, False, 0, 1, (), ("u",)):
            self.bad(("do", w, "a"))

    def test_parts_in_the_wrong_order(self):
        for statement in (("put", "p", "a"), ("take", "a", "p"), ("do", "a", "u"), ("u", "a"), ("a", "new")):
            self.bad(statement)

    def test_too_short_and_too_long(self):
        for statement in (
            ("new", "a"), ("put", "a", "p"), ("take", "p", "a"), ("move", "a", "b"), ("end", "a"), ("do", "u", "a"),
            ("loop", ()), ("either", (), ()),
        ):
            self.let((statement,))
            self.bad(statement[:-1])
            self.bad(statement[:1])
            self.bad(statement + statement[-1:])
            self.bad(statement + (None,))
            self.bad(statement + ((),))
        self.bad(())

    def test_statements_that_are_no_tuples(self):
        for statement in (None, True, False, 0, 1, "", "a", "new a", "new"):
            self.bad(statement)

    def test_bodies_that_are_no_tuples(self):
        for body in (None, True, False, 0, 1, "", "new"):
            self.bad(("loop", body))
            self.bad(("either", body, ()))
            self.bad(("either", (), body))
            self.bad(("either", body, body))

    def test_a_statement_in_place_of_a_body(self):
        self.refused((("loop", U),), "BadProgram", (0, 0))
        self.refused((("either", U, ()),), "BadProgram", (0, 0, 0))
        self.refused((("either", (), U),), "BadProgram", (0, 1, 0))

    def test_where_a_bad_statement_stands(self):
        bad = ("new", "e")
        self.refused((U, ("loop", (U, bad))), "BadProgram", (1, 1))
        self.refused((U, ("either", (U, U, bad), ())), "BadProgram", (1, 0, 2))
        self.refused((U, ("either", (U, U), (U, bad))), "BadProgram", (1, 1, 1))
        self.refused((("loop", (U, ("either", (), (U, ("loop", (U, U, bad)))))),), "BadProgram", (0, 1, 1, 1, 2))


class TestOrder(unittest.TestCase):
    def refused(self, thing, name, what):
        self.assertEqual(refusal(made_program, thing), (name, what))
        self.assertIs(is_program(thing), False)

    def test_forty_and_forty_one(self):
        self.assertIs(is_program((U,) * 40), True)
        self.refused((U,) * 41, "TooMany", 41)
        self.refused((U,) * 99999, "TooMany", 41)

    def test_loops_and_their_statements_are_counted(self):
        for within, many in ((("loop", (U,) * 20), 21), (("either", (U,) * 10, (U,) * 15), 26)):
            self.assertIs(is_program((within,) + (U,) * (40 - many)), True)
            self.assertIs(is_program((U,) * (40 - many) + (within,)), True)
            self.refused((within,) + (U,) * (41 - many), "TooMany", 41)
            self.refused((U,) * (41 - many) + (within,), "TooMany", 41)

    def test_counted_ahead_of_its_form(self):
        for thing in (None, (), ("new",), 3, ("loop", 1), ("new", "e")):
            self.refused((U,) * 40 + (thing,), "TooMany", 41)
            self.refused((U,) * 39 + (thing,), "BadProgram", (39,))
            self.refused((("loop", (U,) * 39 + (thing,)),), "TooMany", 41)
            self.refused((("loop", (U,) * 38 + (thing,)),), "BadProgram", (0, 38))

    def test_a_bad_one_ahead_of_the_forty_first(self):
        self.refused((U,) * 10 + (("new",),) + (U,) * 50, "BadProgram", (10,))
        self.refused((("loop", (("new",),)),) + (U,) * 50, "BadProgram", (0, 0))
        self.refused((("loop", (U,) * 45), ("new",)), "TooMany", 41)

    def test_six_and_seven_deep(self):
        for core in ((), (U,), (("new", "e"),), (None,)):
            self.refused(nested(7, core), "TooMany", 7)
        self.assertIs(is_program(nested(6)), True)
        self.assertIs(is_program(nested(6, (U,))), True)
        self.assertIs(is_program(nested(2)), True)
        self.refused(nested(99), "TooMany", 7)

    def test_an_either_too_deep(self):
        self.refused(nested(6, (("either", (), ()),)), "TooMany", 7)
        self.refused(nested(6, (U, ("either", (U,), (None,)))), "TooMany", 7)
        deepest = nested(5, (("either", (U,), (U,)),))
        self.assertIs(made_program(deepest), deepest)
        self.refused(nested(5, (("either", (), (("loop", ()),)),)), "TooMany", 7)

    def test_the_form_ahead_of_the_bodies(self):
        self.refused(nested(6, (("loop", (), ()),)), "BadProgram", (0,) * 6)
        self.refused(nested(6, (("loop", None),)), "BadProgram", (0,) * 6)
        self.refused((("either", (None,), 1),), "BadProgram", (0,))
        self.refused((("either", nested(6), None),), "BadProgram", (0,))

    def test_of_two_bad_ones_the_first_in_text_order(self):
        bad = ("end", "p")
        self.refused((U, bad, bad), "BadProgram", (1,))
        self.refused((("loop", (U, bad)), bad), "BadProgram", (0, 1))
        self.refused((("either", (U,), (U, U, bad)), bad), "BadProgram", (0, 1, 2))
        self.refused((("either", (U, bad), (bad,)),), "BadProgram", (0, 0, 1))
        self.refused((bad, ("loop", (bad,))), "BadProgram", (0,))

    def test_bad_behind_too_deep_and_the_other_way(self):
        bad = ("new", "e")
        self.refused(nested(7) + (bad,), "TooMany", 7)
        self.refused((bad,) + nested(7), "BadProgram", (0,))
        self.refused((("either", nested(6), (bad,)),), "TooMany", 7)
        self.refused((("either", (bad,), nested(6)),), "BadProgram", (0, 0, 0))
        self.refused(nested(6, (("loop", ()), bad)), "TooMany", 7)
        self.refused(nested(6, (bad, ("loop", ()))), "BadProgram", (0,) * 6)

    def test_too_many_behind_too_deep_and_the_other_way(self):
        self.refused(nested(7) + (U,) * 50, "TooMany", 7)
        self.refused((U,) * 50 + nested(7), "TooMany", 41)
        self.refused((U,) * 35 + nested(7), "TooMany", 41)
        self.refused((U,) * 34 + nested(7), "TooMany", 7)


class TestJudge(unittest.TestCase):
    def test_true_just_where_nothing_is_raised(self):
        for thing in odd_values():
            self.assertIs(is_program(thing), refusal(made_program, thing) is None)
            self.assertIs(is_program(thing), thing == ())

    def test_large_values(self):
        self.assertIs(is_program((U,) * 25000), False)
        self.assertIs(is_program((("loop", (U,) * 25000),)), False)
        self.assertIs(is_program((("new", "a" * 100000),)), False)
        self.assertIs(is_program(((("new",), "a"),)), False)
        self.assertIs(is_program(((deep(97), "a"),)), False)
        self.assertIs(is_program((("new", deep(97)),)), False)
        self.assertIs(is_program((("loop", deep(97)),)), False)


if __name__ == "__main__":
    unittest.main()
