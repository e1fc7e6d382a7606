import unittest

from anytwo.places import next_place, places
from helpers import deep, refusal

U = ("do", "u", "a")
TAKE = ("take", "p", "b")

MIXED = (
    U,                                                  # (0,)
    ("loop", (                                          # (1,)
        U,                                              # (1, 0)
        ("either", (                                    # (1, 1)
            U,                                          # (1, 1, 0, 0)
            ("loop", (TAKE, U)),                        # (1, 1, 0, 1): (.., 0), (.., 1)
            U,                                          # (1, 1, 0, 2)
        ), (
            ("either", (U,), (U, TAKE)),                # (1, 1, 1, 0): (.., 0, 0), (.., 1, 0), (.., 1, 1)
        )),
    )),
    ("either", (), (U, U)),                             # (2,): (2, 1, 0), (2, 1, 1)
    ("loop", ()),                                       # (3,)
    ("either", (("loop", (U,)),), ()),                  # (4,): (4, 0, 0): (4, 0, 0, 0)
)
MIXED_PLACES = (
    (0,), (1,), (1, 0), (1, 1), (1, 1, 0, 0), (1, 1, 0, 1), (1, 1, 0, 1, 0), (1, 1, 0, 1, 1), (1, 1, 0, 2),
    (1, 1, 1, 0), (1, 1, 1, 0, 0, 0), (1, 1, 1, 0, 1, 0), (1, 1, 1, 0, 1, 1),
    (2,), (2, 1, 0), (2, 1, 1), (3,), (4,), (4, 0, 0), (4, 0, 0, 0), (5,),
)
MIXED_NEXT = {
    (0,): (1,),
    (1, 0): (1, 1),
    (1, 1, 0, 0): (1, 1, 0, 1),
    (1, 1, 0, 1, 0): (1, 1, 0, 1, 1),
    (1, 1, 0, 1, 1): (1, 1, 0, 1),
    (1, 1, 0, 2): (1,),
    (1, 1, 1, 0, 0, 0): (1,),
    (1, 1, 1, 0, 1, 0): (1, 1, 1, 0, 1, 1),
    (1, 1, 1, 0, 1, 1): (1,),
    (2, 1, 0): (2, 1, 1),
    (2, 1, 1): (3,),
    (4, 0, 0, 0): (4, 0, 0),
}


class TestPlaces(unittest.TestCase):
    def test_empty(self):
        self.assertEqual(places(()), ((0,),))

    def test_plain(self):
        self.assertEqual(places((U, U, U)), ((0,), (1,), (2,), (3,)))
        self.assertEqual(places(program=(U,)), ((0,), (1,)))

    def test_empty_bodies(self):
        self.assertEqual(places((("loop", ()),)), ((0,), (1,)))
        self.assertEqual(places((("either", (), ()), U)), ((0,), (1,), (2,)))

    def test_loop(self):
        self.assertEqual(places((U, U, ("loop", (U, U)))), ((0,), (1,), (2,), (2, 0), (2, 1), (3,)))

    def test_either(self):
        self.assertEqual(
            places((U, U, U, ("either", (U,), (U, U)))),
            ((0,), (1,), (2,), (3,), (3, 0, 0), (3, 1, 0), (3, 1, 1), (4,)),
        )

    def test_loops_and_eithers_within_each_other(self):
        self.assertEqual(places(MIXED), MIXED_PLACES)

    def test_example_a(self):
        program = (("loop", (("new", "a"), ("put", "a", "p"), ("take", "p", "b"))),)
        self.assertEqual(places(program), ((0,), (0, 0), (0, 1), (0, 2), (1,)))
        self.assertEqual(next_place(program, (0, 1)), (0, 2))
        self.assertEqual(next_place(program, (0, 2)), (0,))

    def test_a_tuple_of_tuples(self):
        self.assertIs(places(MIXED).__class__, tuple)
        for place in places(MIXED):
            self.assertIs(place.__class__, tuple)
            for part in place:
                self.assertIs(part.__class__, int)

    def test_errors_of_the_program(self):
        self.assertEqual(refusal(places, None), ("BadProgram", ()))
        self.assertEqual(refusal(places, (U, ("loop", (None,)))), ("BadProgram", (1, 0)))
        self.assertEqual(refusal(places, (U,) * 41), ("TooMany", 41))


class TestNextPlace(unittest.TestCase):
    def bad(self, program, place):
        self.assertEqual(refusal(next_place, program, place), ("BadPlace", place))

    def test_inside_a_body(self):
        self.assertEqual(next_place((U, U, U), (0,)), (1,))
        self.assertEqual(next_place((U, U, U), (1,)), (2,))
        self.assertEqual(next_place((("loop", (U, U)),), (0, 0)), (0, 1))
        self.assertEqual(next_place((("either", (U, U), ()),), (0, 0, 0)), (0, 0, 1))
        self.assertEqual(next_place((("either", (), (U, U)),), (0, 1, 0)), (0, 1, 1))

    def test_behind_the_last_one_of_the_program(self):
        self.assertEqual(next_place((U,), (0,)), (1,))
        self.assertEqual(next_place((U, U, U), (2,)), (3,))
        self.assertEqual(next_place(program=(U, U), place=(1,)), (2,))

    def test_behind_the_last_one_of_a_loop(self):
        self.assertEqual(next_place((("loop", (U,)),), (0, 0)), (0,))
        self.assertEqual(next_place((U, ("loop", (U, U)), U), (1, 1)), (1,))
        self.assertEqual(next_place((("loop", (("loop", (U,)),)),), (0, 0, 0)), (0, 0))

    def test_behind_the_last_one_of_an_either(self):
        program = (("either", (U,), (U, U)), U)
        self.assertEqual(next_place(program, (0, 0, 0)), (1,))
        self.assertEqual(next_place(program, (0, 1, 1)), (1,))
        self.assertEqual(next_place(program[:1], (0, 0, 0)), (1,))
        self.assertEqual(next_place(program[:1], (0, 1, 1)), (1,))

    def test_behind_an_either_that_is_the_last_one(self):
        inner = ("either", (U,), (U,))
        for which in (0, 1):
            self.assertEqual(next_place((("loop", (U, inner)), U), (0, 1, which, 0)), (0,))
            self.assertEqual(next_place((("either", (inner,), ()), U), (0, 0, 0, which, 0)), (1,))
            self.assertEqual(next_place((("either", (), (inner,)), U), (0, 1, 0, which, 0)), (1,))
            self.assertEqual(next_place((("loop", (("either", (), (inner,)),)),), (0, 0, 1, 0, which, 0)), (0,))
            self.assertEqual(next_place((("either", (inner, U), ()),), (0, 0, 0, which, 0)), (0, 0, 1))

    def test_everywhere_in_a_mixed_program(self):
        for place in MIXED_PLACES:
            if place in MIXED_NEXT:
                self.assertEqual(next_place(MIXED, place), MIXED_NEXT[place])
            else:
                self.bad(MIXED, place)

    def test_loops_eithers_and_the_end(self):
        program = (("loop", (U,)), ("either", (U,), ()), U)
        self.bad(program, (0,))
        self.bad(program, (1,))
        self.bad(program, (3,))
        self.bad((), (0,))

    def test_tuples_that_lead_nowhere(self):
        program = (U, ("loop", (U,)), ("either", (U,), (U, U)))
        for place in (
            (), (-1,), (4,), (10 ** 5000,), (-10 ** 5000,), (0, 0), (1, 1), (1, -1), (1, 0, 0), (2, 0), (2, 1),
            (2, 2, 0), (2, -1, 0), (2, 0, 1), (2, 1, 2), (2, 0, 0, 0), (0,) * 99999, (1, ()), ((0,),), ((1, 0),),
        ):
            self.bad(program, place)

    def test_true_and_false_are_no_numbers(self):
        program = (U, ("loop", (U,)), ("either", (U,), (U, U)))
        for place in ((False,), (True, 0), (1, False), (2, False, 0), (2, True, 0), (2, 1, True), (2, 1, False)):
            self.assertEqual(refusal(next_place, program, place), ("BadPlace", place))
        with self.assertRaises(ValueError) as caught:
            next_place(program, (False,))
        self.assertIs(caught.exception.what[0], False)

    def test_no_tuples(self):
        for place in (None, True, False, 0, 1, "", "0", ("0",), (None,), deep(99), (deep(98),) * 1000):
            self.bad((U, U), place)

    def test_the_errors_of_the_program_come_first(self):
        for place in ((0,), (9,), None, (True,)):
            self.assertEqual(refusal(next_place, 3, place), ("BadProgram", ()))
            self.assertEqual(refusal(next_place, (U, ("new",)), place), ("BadProgram", (1,)))
            self.assertEqual(refusal(next_place, (U,) * 41, place), ("TooMany", 41))


if __name__ == "__main__":
    unittest.main()
