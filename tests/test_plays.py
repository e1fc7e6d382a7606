import itertools
import unittest

from anytwo.errors import TooMany
from anytwo.plays import play
from anytwo.things import Things
from helpers import refusal

U = ("do", "u", "a")
NEW_A = ("new", "a")
NOTHING = (None, None, None, None)
EMPTY = ((), ())


def events(program, choices=()):
    return play(program, choices)[0]


class TestChoices(unittest.TestCase):
    def stops(self, program, choices, place, steps):
        got = play(program, choices)
        self.assertEqual(got[2], place)
        self.assertEqual(got[1], steps)

    def refused(self, program, choices, name, what):
        self.assertEqual(refusal(play, program, choices), (name, what))

    def test_none_at_other_statements(self):
        program = (NEW_A, ("put", "a", "p"), ("move", "a", "b"), ("end", "b"), U)
        self.stops(program, (), (5,), 5)
        self.stops((), (), (0,), 0)
        for statement in program:
            self.stops((statement,), (), (1,), 1)
            self.refused((statement,), (0,), "BadChoices", 0)

    def test_by_name(self):
        self.assertEqual(play(program=(NEW_A,), choices=()), (((1, "new", 0),), 1, (1,), (0, None, None, None), EMPTY))

    def test_loop(self):
        program = (("loop", (U, U)), U)
        self.stops(program, (), (0,), 0)
        self.stops(program, (1,), (0,), 2)
        self.stops(program, (1, 1), (0,), 4)
        self.stops(program, (0,), (2,), 1)
        self.stops(program, (1, 0), (2,), 3)

    def test_empty_loop(self):
        program = (("loop", ()), U)
        self.stops(program, (1, 1, 1), (0,), 0)
        self.stops(program, (1, 1, 0), (2,), 1)
        self.stops((("loop", (("loop", ()),)),), (1,), (0, 0), 0)
        self.stops((("loop", (("loop", ()),)),), (1, 1, 0), (0,), 0)

    def test_either(self):
        program = (("either", (U,), (U, U)), U)
        self.stops(program, (), (0,), 0)
        self.stops(program, (0,), (2,), 2)
        self.stops(program, (1,), (2,), 3)
        self.assertEqual(events((NEW_A, ("either", (("do", "v", "a"),), (("do", "w", "a"),))), (0,))[1:], ((2, "v", 0),))
        self.assertEqual(events((NEW_A, ("either", (("do", "v", "a"),), (("do", "w", "a"),))), (1,))[1:], ((2, "w", 0),))

    def test_either_with_empty_bodies(self):
        self.stops((("either", (), (U,)), U), (0,), (2,), 1)
        self.stops((("either", (), (U,)), U), (1,), (2,), 2)
        self.stops((("either", (U,), ()), U), (0,), (2,), 2)
        self.stops((("either", (U,), ()), U), (1,), (2,), 1)
        self.stops((("either", (), ()),), (1,), (1,), 0)
        self.stops((("loop", (("either", (), ()),)),), (1, 0), (0,), 0)
        self.stops((("loop", (("either", (), ()),)),), (1, 1, 1), (0, 0), 0)

    def test_within_each_other(self):
        program = (("loop", (("either", (("loop", (U,)),), (U,)), U)), U)
        self.stops(program, (1, 0, 1, 1, 0, 1, 1, 0), (2,), 6)
        self.stops(program, (1, 0, 1), (0, 0, 0, 0), 1)
        self.stops(program, (1,), (0, 0), 0)
        self.stops(program, (1, 1), (0,), 2)

    def test_take_of_an_empty_pile(self):
        program = (("take", "p", "a"), U)
        self.stops(program, (), (0,), 0)
        self.stops(program, (0,), (2,), 2)
        self.refused(program, (1,), "BadChoices", 0)
        self.refused(program, (-1,), "BadChoices", 0)
        self.refused(program, (0, 0), "BadChoices", 1)
        self.stops(program + (("take", "q", "a"),), (0,), (2,), 2)

    def test_take_of_a_pile(self):
        program = (NEW_A, ("put", "a", "p"), NEW_A, ("put", "a", "p"), ("take", "p", "b"), ("take", "p", "c"))
        self.assertEqual(play(program, (0, 0))[3:], (NOTHING, ((0, 1), ())))
        self.assertEqual(play(program, (1, 1))[3:], ((None, 0, 1, None), EMPTY))
        self.assertEqual(play(program, (2, 1))[3:], ((None, 1, 0, None), EMPTY))
        self.assertEqual(play(program, (0, 2))[3:], ((None, None, 1, None), ((0,), ())))
        self.refused(program, (3,), "BadChoices", 0)
        self.refused(program, (2, 2), "BadChoices", 1)
        self.refused(program, (0, 3), "BadChoices", 1)
        self.refused(program, (0, -1), "BadChoices", 1)

    def test_piles_are_ascending_in_whatever_order_things_are_put(self):
        for order in itertools.permutations(range(5)):
            # The things 0 to 4 lie in q; each take takes one of them by its number among those that are left.
            left = list(range(5))
            program = (NEW_A, ("put", "a", "q")) * 5
            choices = []
            for thing in order:
                program += (("take", "q", "b"), ("put", "b", "p"))
                choices.append(left.index(thing) + 1)
                left.remove(thing)
            for many in range(6):
                told = play(program, tuple(choices[:many]))
                self.assertEqual(told[4], (tuple(sorted(order[:many])), tuple(sorted(order[many:]))))

    def test_a_take_looks_at_its_own_pile(self):
        program = (NEW_A, ("put", "a", "q"), ("take", "p", "b"), ("take", "q", "b"))
        self.refused(program, (1,), "BadChoices", 0)
        self.assertEqual(play(program, (0, 1))[3:], ((None, 0, None, None), EMPTY))

    def test_a_take_asks_ahead_of_all_else(self):
        self.assertEqual(
            play((NEW_A, ("take", "p", "a")), ()), (((1, "new", 0),), 1, (1,), (0, None, None, None), EMPTY)
        )
        # What the name holds is not in the pile, and does not come into it by the take.
        self.refused((NEW_A, ("take", "p", "a")), (1,), "BadChoices", 0)

    def test_out_of_bounds(self):
        for program in ((("loop", (U,)),), (("either", (), ()),), (("loop", ()),)):
            for choice in (-1, 2, 3, 10 ** 5000, -10 ** 5000):
                self.refused(program, (choice,), "BadChoices", 0)
        self.refused((("loop", (U,)),), (1, 1, 2, -1), "BadChoices", 2)
        self.refused((("loop", (U,)),), (1, 1, 1, -1, 2), "BadChoices", 3)

    def test_left_over(self):
        self.refused((), (0,), "BadChoices", 0)
        self.refused((U,), (1, 1), "BadChoices", 0)
        self.refused((("loop", (U,)),), (1, 0, 0), "BadChoices", 2)
        self.refused((("loop", (U,)),), (0, 5, -1), "BadChoices", 1)
        self.refused((("either", (), ()),), (0, -7), "BadChoices", 1)

    def test_of_two_the_one_that_the_play_meets(self):
        program = (("either", (("either", (), ()),), ()),)
        self.refused(program, (0, 2), "BadChoices", 1)
        self.refused(program, (1, 2), "BadChoices", 1)
        self.refused(program, (0, 1, 2), "BadChoices", 2)
        self.refused(program, (2, 2), "BadChoices", 0)

    def test_three_thousand(self):
        program = (("loop", ()),)
        self.stops(program, (1,) * 3000, (0,), 0)
        self.stops(program, (1,) * 2999 + (0,), (1,), 0)
        self.refused(program, (1,) * 2998 + (0, 0), "BadChoices", 2999)
        self.refused(program, (1,) * 3001, "TooMany", 3001)
        self.refused(program, (1,) * 12345, "TooMany", 12345)

    def test_how_many_comes_ahead_of_all_else_of_choices(self):
        self.refused((("loop", ()),), (7,) * 3001, "TooMany", 3001)
        self.refused((), (0,) * 3001, "TooMany", 3001)
        self.refused((("loop", (NEW_A,)),), (1,) * 3001, "TooMany", 3001)

    def test_the_program_comes_first(self):
        for choices in ((), (9,), (0,) * 3001):
            self.assertEqual(refusal(play, None, choices), ("BadProgram", ()))
            self.assertEqual(refusal(play, (U, ("new",)), choices), ("BadProgram", (1,)))
            self.assertEqual(refusal(play, (U,) * 41, choices), ("TooMany", 41))

    def test_two_hundred_things(self):
        program = (("loop", (NEW_A,)),)
        got = play(program, (1,) * 200)
        self.assertEqual(got[1:4], (200, (0,), (199, None, None, None)))
        self.assertEqual(len(got[0]), 399)
        self.refused(program, (1,) * 201, "TooMany", 201)
        self.refused(program, (1,) * 3000, "TooMany", 201)
        self.refused((("loop", (NEW_A, ("end", "a"))),), (1,) * 201, "TooMany", 201)

    def test_too_many_things_and_bad_choices_as_they_are_met(self):
        program = (("loop", (NEW_A,)),)
        self.refused(program, (1,) * 201 + (5,), "TooMany", 201)
        self.refused(program, (1,) * 200 + (5,), "BadChoices", 200)
        self.refused(program, (1,) * 200 + (0, 5), "BadChoices", 201)
        self.refused(program, (1,) * 199 + (-1, 1, 1), "BadChoices", 199)
        # The place that wants the next choice is not come to.
        self.refused((("loop", (NEW_A,)), NEW_A), (1,) * 200 + (0, 0), "TooMany", 201)

    def test_nothing_of_the_statement_is_done_that_would_make_one_too_many(self):
        things = Things()
        for _ in range(200):
            things.do(NEW_A, 0)
        many = len(things.events)
        with self.assertRaises(TooMany) as caught:
            things.do(NEW_A, 0)
        self.assertEqual(caught.exception.what, 201)
        self.assertEqual((len(things.events), things.steps, things.held()), (many, 200, (199, None, None, None)))


class TestStatements(unittest.TestCase):
    def test_examples(self):
        self.assertEqual(
            play((("new", "b"), ("move", "a", "b")), ()),
            (((1, "new", 0), (2, "end", 0)), 2, (2,), NOTHING, EMPTY),
        )
        program = (("new", "a"), ("new", "b"), ("put", "b", "p"), ("put", "a", "p"), ("take", "p", "c"))
        self.assertEqual(
            play(program, (1,)),
            (
                ((1, "new", 0), (2, "new", 1), (3, "putp", 1), (4, "putp", 0), (5, "takep", 0)),
                5, (5,), (None, None, 0, None), ((1,), ()),
            ),
        )

    def test_new(self):
        self.assertEqual(play((("new", "c"),), ()), (((1, "new", 0),), 1, (1,), (None, None, 0, None), EMPTY))
        self.assertEqual(
            play((NEW_A, NEW_A), ()),
            (((1, "new", 0), (2, "end", 0), (2, "new", 1)), 2, (2,), (1, None, None, None), EMPTY),
        )

    def test_names_in_their_order(self):
        program = (("new", "d"), ("new", "b"), ("new", "a"), ("new", "c"))
        self.assertEqual(play(program, ())[3], (2, 1, 3, 0))

    def test_put(self):
        for pile, piles in (("p", ((0,), ())), ("q", ((), (0,)))):
            self.assertEqual(
                play((NEW_A, ("put", "a", pile)), ()),
                (((1, "new", 0), (2, "put" + pile, 0)), 2, (2,), NOTHING, piles),
            )
            self.assertEqual(play((("put", "a", pile),), ()), ((), 1, (1,), NOTHING, EMPTY))
            self.assertEqual(
                play((NEW_A, ("put", "b", pile)), ()), (((1, "new", 0),), 2, (2,), (0, None, None, None), EMPTY)
            )

    def test_put_again(self):
        program = (NEW_A, ("put", "a", "p"), ("take", "p", "b"), ("put", "b", "q"), ("put", "b", "p"), U)
        self.assertEqual(
            play(program, (1,)),
            (((1, "new", 0), (2, "putp", 0), (3, "takep", 0), (4, "putq", 0)), 6, (6,), NOTHING, ((), (0,))),
        )

    def test_take(self):
        for pile in ("p", "q"):
            program = (NEW_A, ("put", "a", pile), ("take", pile, "b"))
            self.assertEqual(
                play(program, (1,)),
                (
                    ((1, "new", 0), (2, "put" + pile, 0), (3, "take" + pile, 0)),
                    3, (3,), (None, 0, None, None), EMPTY,
                ),
            )

    def test_take_ends_what_is_held_first(self):
        program = (NEW_A, ("put", "a", "p"), NEW_A, ("take", "p", "a"))
        self.assertEqual(
            play(program, (1,)),
            (
                ((1, "new", 0), (2, "putp", 0), (3, "new", 1), (4, "end", 1), (4, "takep", 0)),
                4, (4,), (0, None, None, None), EMPTY,
            ),
        )

    def test_take_of_none_ends_what_is_held(self):
        program = (NEW_A, ("put", "a", "p"), NEW_A, ("take", "p", "a"))
        self.assertEqual(
            play(program, (0,)),
            (((1, "new", 0), (2, "putp", 0), (3, "new", 1), (4, "end", 1)), 4, (4,), NOTHING, ((0,), ())),
        )
        self.assertEqual(
            play((NEW_A, ("take", "q", "a")), (0,)), (((1, "new", 0), (2, "end", 0)), 2, (2,), NOTHING, EMPTY)
        )
        self.assertEqual(
            play((NEW_A, ("take", "q", "b")), (0,)), (((1, "new", 0),), 2, (2,), (0, None, None, None), EMPTY)
        )

    def test_move(self):
        self.assertEqual(
            play((NEW_A, ("move", "a", "d")), ()), (((1, "new", 0),), 2, (2,), (None, None, None, 0), EMPTY)
        )
        self.assertEqual(
            play((NEW_A, ("new", "b"), ("move", "a", "b")), ()),
            (((1, "new", 0), (2, "new", 1), (3, "end", 1)), 3, (3,), (None, 0, None, None), EMPTY),
        )
        self.assertEqual(
            play((NEW_A, ("move", "b", "a")), ()), (((1, "new", 0), (2, "end", 0)), 2, (2,), NOTHING, EMPTY)
        )
        self.assertEqual(play((("move", "a", "b"),), ()), ((), 1, (1,), NOTHING, EMPTY))

    def test_move_to_itself(self):
        self.assertEqual(
            play((NEW_A, ("move", "a", "a"), U), ()),
            (((1, "new", 0), (3, "u", 0)), 3, (3,), (0, None, None, None), EMPTY),
        )
        self.assertEqual(play((("move", "c", "c"),), ()), ((), 1, (1,), NOTHING, EMPTY))

    def test_end(self):
        self.assertEqual(play((NEW_A, ("end", "a")), ()), (((1, "new", 0), (2, "end", 0)), 2, (2,), NOTHING, EMPTY))
        self.assertEqual(play((("end", "a"),), ()), ((), 1, (1,), NOTHING, EMPTY))
        self.assertEqual(
            play((NEW_A, ("end", "b"), ("end", "a"), ("end", "a")), ()),
            (((1, "new", 0), (3, "end", 0)), 4, (4,), NOTHING, EMPTY),
        )

    def test_do(self):
        for word in ("u", "v", "w"):
            self.assertEqual(
                play((("new", "b"), ("do", word, "b")), ()),
                (((1, "new", 0), (2, word, 0)), 2, (2,), (None, 0, None, None), EMPTY),
            )
            self.assertEqual(play((("do", word, "b"),), ()), ((), 1, (1,), NOTHING, EMPTY))

    def test_steps_count_whatever_effect_they_have(self):
        program = (U, ("put", "b", "q"), ("end", "c"), ("move", "d", "d"), ("move", "d", "c"), NEW_A, U)
        self.assertEqual(play(program, ())[:2], (((6, "new", 0), (7, "u", 0)), 7))

    def test_loops_and_eithers_are_no_steps(self):
        program = (NEW_A, ("loop", (("either", (U,), ()), ("loop", ()))), U)
        self.assertEqual(
            play(program, (1, 0, 1, 0, 1, 1, 0, 0))[:2], (((1, "new", 0), (2, "u", 0), (3, "u", 0)), 3)
        )

    def test_piles_are_ascending_whenever_things_were_put(self):
        program = (
            ("new", "a"), ("new", "b"), ("new", "c"), ("new", "d"),
            ("put", "c", "p"), ("put", "a", "p"), ("put", "d", "p"), ("put", "b", "p"),
            ("take", "p", "a"),
        )
        self.assertEqual(play(program, ())[4], ((0, 1, 2, 3), ()))
        for choice in (1, 2, 3, 4):
            got = play(program, (choice,))
            self.assertEqual(got[3], (choice - 1, None, None, None))
            self.assertEqual(got[4], (tuple(k for k in range(4) if k != choice - 1), ()))
            self.assertEqual(got[0][-1], (9, "takep", choice - 1))
        self.assertEqual(refusal(play, program, (5,)), ("BadChoices", 0))

    def test_two_piles(self):
        program = (
            ("new", "a"), ("new", "b"), ("new", "c"), ("put", "c", "q"), ("put", "b", "p"), ("put", "a", "q"),
            ("take", "q", "d"), ("take", "p", "d"),
        )
        self.assertEqual(play(program, ())[3:], (NOTHING, ((1,), (0, 2))))
        self.assertEqual(play(program, (2,))[3:], ((None, None, None, 2), ((1,), (0,))))
        self.assertEqual(play(program, (2, 1))[3:], ((None, None, None, 1), ((), (0,))))
        self.assertEqual(play(program, (2, 1))[0][-3:], ((7, "takeq", 2), (8, "end", 2), (8, "takep", 1)))

    def test_large_numbers_are_ordered_as_numbers(self):
        program = (("loop", (NEW_A, ("put", "a", "p"))), ("take", "p", "b"))
        got = play(program, (1,) * 120 + (0, 101))
        self.assertEqual(got[3], (None, 100, None, None))
        self.assertEqual(got[4][0], tuple(k for k in range(120) if k != 100))

    def test_what_is_returned(self):
        got = play((NEW_A, ("put", "a", "p"), ("loop", ())), (1,))
        self.assertEqual([part.__class__ for part in got], [tuple, int, tuple, tuple, tuple])
        self.assertEqual([part.__class__ for part in got[4]], [tuple, tuple])
        self.assertTrue(all(event.__class__ is tuple for event in got[0]))
        self.assertEqual(got, play((NEW_A, ("put", "a", "p"), ("loop", ())), (1,)))


class TestLongPlays(unittest.TestCase):
    def test_a_long_play(self):
        body = (("take", "p", "a"),) + (U, ("move", "a", "b"), ("put", "b", "p")) * 12
        program = (NEW_A, ("put", "a", "p"), ("loop", body))
        got = play(program, (1, 1) * 1500)
        self.assertEqual(got[1], 2 + 37 * 1500)
        self.assertEqual(got[4], ((0,), ()))
        self.assertEqual(len(got[0]), 2 + 3 * 1500)


if __name__ == "__main__":
    unittest.main()
