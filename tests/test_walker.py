import itertools
import random
import unittest

from anytwo.layouts import first_place
from anytwo.letters import LETTERS
from anytwo.places import next_place, places
from anytwo.programs import made_program
from anytwo.walker import steps_of
from helpers import odd_values, refusal
from made_programs import EXAMPLE, EXAMPLE_A, LARGE, NAMES, PILES, lively_program, plays_of, random_program
from made_programs import statements_of, wants_choice, words_of

WHERES = (None, "a", "b", "c", "d", "p", "q", "x")
U = ("do", "u", "a")


def is_state(elder, younger):
    return (elder is not None or younger is None) and not (elder in NAMES and elder == younger)


ALL_TWO = [two for two in itertools.product(WHERES, repeat=2) if is_state(*two)]


def told(statement, elder, younger):
    """What steps_of tells at this statement, without the places."""
    got = steps_of((statement,), ((0,), elder, younger))
    for letters, behind in got:
        assert letters.__class__ is tuple and behind.__class__ is tuple and len(behind) == 3
        assert behind[0] == (1,)
    return [(" ".join(letters), *behind[1:]) for letters, behind in got]


class TestStatements(unittest.TestCase):
    def test_new(self):
        self.assertEqual(told(("new", "a"), None, None), [("", None, None), ("", "a", None)])
        self.assertEqual(told(("new", "a"), "a", None), [("e.end", "x", None), ("e.end y.new", "x", "a")])
        self.assertEqual(told(("new", "a"), "a", "b"), [("e.end", "x", "b")])
        self.assertEqual(told(("new", "a"), "a", "p"), [("e.end", "x", "p")])
        self.assertEqual(told(("new", "a"), "a", "x"), [("e.end", "x", "x")])
        for elder in ("b", "c", "d", "p", "q", "x"):
            self.assertEqual(told(("new", "a"), elder, None), [("", elder, None), ("y.new", elder, "a")])
            self.assertEqual(told(("new", "a"), elder, "a"), [("y.end", elder, "x")])
        self.assertEqual(told(("new", "d"), "b", "c"), [("", "b", "c")])
        self.assertEqual(told(("new", "d"), "x", "x"), [("", "x", "x")])
        self.assertEqual(told(("new", "d"), "p", "p"), [("", "p", "p")])

    def test_new_by_all_names_at_all_states(self):
        for x in NAMES:
            for elder, younger in ALL_TWO:
                got = told(("new", x), elder, younger)
                if elder is None:
                    self.assertEqual(got, [("", None, None), ("", x, None)])
                elif younger is None:
                    then, letters = ("x", ["e.end"]) if elder == x else (elder, [])
                    self.assertEqual(
                        got, [(" ".join(letters), then, None), (" ".join(letters + ["y.new"]), then, x)]
                    )
                elif x in (elder, younger):
                    self.assertEqual(got, told(("end", x), elder, younger))
                else:
                    self.assertEqual(got, [("", elder, younger)])

    def test_end(self):
        for x in NAMES:
            for elder, younger in ALL_TWO:
                got = told(("end", x), elder, younger)
                if elder == x:
                    self.assertEqual(got, [("e.end", "x", younger)])
                elif younger == x:
                    self.assertEqual(got, [("y.end", elder, "x")])
                else:
                    self.assertEqual(got, [("", elder, younger)])

    def test_put(self):
        for x in NAMES:
            for p in PILES:
                for elder, younger in ALL_TWO:
                    got = told(("put", x, p), elder, younger)
                    if elder == x:
                        self.assertEqual(got, [("e.put" + p, p, younger)])
                    elif younger == x:
                        self.assertEqual(got, [("y.put" + p, elder, p)])
                    else:
                        self.assertEqual(got, [("", elder, younger)])

    def test_do(self):
        for x in NAMES:
            for w in ("u", "v", "w"):
                for elder, younger in ALL_TWO:
                    got = told(("do", w, x), elder, younger)
                    if elder == x:
                        self.assertEqual(got, [("e." + w, elder, younger)])
                    elif younger == x:
                        self.assertEqual(got, [("y." + w, elder, younger)])
                    else:
                        self.assertEqual(got, [("", elder, younger)])

    def test_move(self):
        self.assertEqual(told(("move", "a", "b"), "a", None), [("", "b", None)])
        self.assertEqual(told(("move", "a", "b"), "a", "b"), [("y.end", "b", "x")])
        self.assertEqual(told(("move", "a", "b"), "b", "a"), [("e.end", "x", "b")])
        self.assertEqual(told(("move", "a", "b"), "b", "c"), [("e.end", "x", "c")])
        self.assertEqual(told(("move", "a", "b"), "c", "b"), [("y.end", "c", "x")])
        self.assertEqual(told(("move", "a", "b"), "c", "a"), [("", "c", "b")])
        self.assertEqual(told(("move", "a", "b"), "p", "a"), [("", "p", "b")])
        self.assertEqual(told(("move", "a", "b"), "x", "a"), [("", "x", "b")])
        self.assertEqual(told(("move", "a", "b"), "b", None), [("e.end", "x", None)])
        self.assertEqual(told(("move", "a", "b"), "a", "q"), [("", "b", "q")])
        for two in ((None, None), ("c", None), ("c", "d"), ("p", "q"), ("p", "p"), ("x", "x"), ("d", "x")):
            self.assertEqual(told(("move", "a", "b"), *two), [("", *two)])

    def test_a_move_of_a_name_to_itself(self):
        for x in NAMES:
            for two in ALL_TWO:
                self.assertEqual(told(("move", x, x), *two), [("", *two)])

    def test_take(self):
        self.assertEqual(told(("take", "p", "a"), None, None), [("", None, None)])
        self.assertEqual(told(("take", "p", "a"), "p", None), [("", "p", None), ("e.takep", "a", None)])
        self.assertEqual(told(("take", "q", "a"), "q", None), [("", "q", None), ("e.takeq", "a", None)])
        self.assertEqual(told(("take", "q", "a"), "p", None), [("", "p", None)])
        self.assertEqual(told(("take", "p", "a"), "q", "p"), [("", "q", "p"), ("y.takep", "q", "a")])
        self.assertEqual(told(("take", "q", "a"), "x", "q"), [("", "x", "q"), ("y.takeq", "x", "a")])
        self.assertEqual(
            told(("take", "p", "a"), "p", "p"), [("", "p", "p"), ("e.takep", "a", "p"), ("y.takep", "p", "a")]
        )
        self.assertEqual(told(("take", "p", "a"), "p", "b"), [("", "p", "b"), ("e.takep", "a", "b")])
        self.assertEqual(told(("take", "p", "a"), "x", "q"), [("", "x", "q")])
        self.assertEqual(told(("take", "p", "a"), "b", "c"), [("", "b", "c")])
        self.assertEqual(told(("take", "p", "a"), "x", "x"), [("", "x", "x")])

    def test_emptied_and_taken_in_one_step(self):
        for p in PILES:
            for x in NAMES:
                take = ("take", p, x)
                self.assertEqual(told(take, x, None), [("e.end", "x", None)])
                self.assertEqual(told(take, x, p), [("e.end", "x", p), ("e.end y.take" + p, "x", x)])
                self.assertEqual(told(take, p, x), [("y.end", p, "x"), ("y.end e.take" + p, x, "x")])
                self.assertEqual(told(take, x, "x"), [("e.end", "x", "x")])
                self.assertEqual(told(take, "x", x), [("y.end", "x", "x")])
                other = "q" if p == "p" else "p"
                self.assertEqual(told(take, x, other), [("e.end", "x", other)])
                self.assertEqual(told(take, other, x), [("y.end", other, "x")])

    def test_by_all_statements_at_all_states(self):
        statements = [("new", x) for x in NAMES] + [("end", x) for x in NAMES]
        statements += [(word, *more) for word, more in itertools.product(("move",), itertools.product(NAMES, NAMES))]
        statements += [("take", p, x) for p in PILES for x in NAMES] + [("put", x, p) for p in PILES for x in NAMES]
        statements += [("do", w, x) for w in ("u", "v", "w") for x in NAMES]
        for statement in statements:
            for elder, younger in ALL_TWO:
                got = told(statement, elder, younger)
                self.assertEqual(len(set(got)), len(got))
                self.assertTrue(1 <= len(got) <= 3)
                for letters, *two in got:
                    self.assertTrue(is_state(*two))
                    self.assertTrue(set(letters.split()) <= set(LETTERS))
                    self.assertFalse(elder is None and letters)


class TestPlaces(unittest.TestCase):
    def test_by_name(self):
        self.assertEqual(steps_of(program=(U,), state=((0,), "a", None)), ((("e.u",), ((1,), "a", None)),))

    def test_end(self):
        for two in ALL_TWO:
            self.assertEqual(steps_of((), ((0,), *two)), ())
            self.assertEqual(steps_of(EXAMPLE, ((4,), *two)), ())
            self.assertEqual(steps_of((("loop", (U,)),), ((1,), *two)), ())

    def test_example_a(self):
        self.assertEqual(places(EXAMPLE_A), ((0,), (0, 0), (0, 1), (0, 2), (1,)))
        self.assertEqual(
            steps_of(EXAMPLE_A, ((0, 2), "b", "p")),
            ((("e.end",), ((0,), "x", "p")), (("e.end", "y.takep"), ((0,), "x", "b"))),
        )

    def test_loop(self):
        for two in ALL_TWO:
            self.assertEqual(
                steps_of((("loop", (U, U)), U), ((0,), *two)), (((), ((0, 0), *two)), ((), ((1,), *two)))
            )

    def test_loop_with_an_empty_body(self):
        for two in ALL_TWO:
            self.assertEqual(steps_of((("loop", ()), U), ((0,), *two)), (((), ((0,), *two)), ((), ((1,), *two))))
        inner = (("loop", (("loop", ()),)),)
        self.assertEqual(steps_of(inner, ((0,), "p", None)), (((), ((0, 0), "p", None)), ((), ((1,), "p", None))))
        # On, behind the inner loop, is back at the outer one, which comes ahead in the order of places.
        self.assertEqual(steps_of(inner, ((0, 0), "p", None)), (((), ((0,), "p", None)), ((), ((0, 0), "p", None))))

    def test_loop_at_the_end_of_a_body(self):
        program = (U, ("loop", (("either", (), (U, ("loop", (U,)))),)), U)
        self.assertEqual(
            steps_of(program, ((1, 0, 1, 1), None, None)),
            (((), ((1,), None, None)), ((), ((1, 0, 1, 1, 0), None, None))),
        )

    def test_either(self):
        for two in ALL_TWO:
            self.assertEqual(
                steps_of((("either", (U,), (U, U)), U), ((0,), *two)),
                (((), ((0, 0, 0), *two)), ((), ((0, 1, 0), *two))),
            )

    def test_either_with_empty_bodies(self):
        two = ("c", "x")
        self.assertEqual(
            steps_of((("either", (), (U,)), U), ((0,), *two)), (((), ((0, 1, 0), *two)), ((), ((1,), *two)))
        )
        self.assertEqual(
            steps_of((("either", (U,), ()), U), ((0,), *two)), (((), ((0, 0, 0), *two)), ((), ((1,), *two)))
        )
        # Both lead to the same place, and each pair stands once.
        self.assertEqual(steps_of((("either", (), ()), U), ((0,), *two)), (((), ((1,), *two)),))
        self.assertEqual(steps_of((("loop", (("either", (), ()),)),), ((0, 0), *two)), (((), ((0,), *two)),))
        self.assertEqual(
            steps_of((("loop", (("either", (), (U,)),)),), ((0, 0), *two)), (((), ((0,), *two)), ((), ((0, 0, 1, 0), *two)))
        )

    def test_the_place_behind(self):
        source = random.Random(51)
        for _ in range(60):
            program = random_program(source, source.randint(1, 20))
            for place, statement in statements_of(program).items():
                if statement is not None and statement[0] not in ("loop", "either"):
                    for two in source.sample(ALL_TWO, 8):
                        got = steps_of(program, (place, *two))
                        self.assertEqual({behind[0] for _, behind in got}, {next_place(program, place)})

    def test_order(self):
        source = random.Random(52)
        several = 0
        for _ in range(60):
            program = made_program(random_program(source, source.randint(1, 30), 6, NAMES))
            order = places(program)
            for place in order:
                for two in source.sample(ALL_TWO, 10):
                    got = steps_of(program, (place, *two))
                    keys = [
                        ([LETTERS.index(letter) for letter in letters], order.index(behind[0]), WHERES.index(behind[1]),
                         WHERES.index(behind[2]))
                        for letters, behind in got
                    ]
                    several += len(keys) > 1
                    self.assertTrue(all(one < two for one, two in zip(keys, keys[1:])), got)
        self.assertGreater(several, 1000)


class TestErrors(unittest.TestCase):
    def refused(self, state, name, what, program=EXAMPLE_A):
        self.assertEqual(refusal(steps_of, program, state), (name, what))

    def test_of_the_program(self):
        for state in (None, ((9,), None, None), ((0,), "z", None)):
            self.refused(state, "BadProgram", (), None)
            self.refused(state, "BadProgram", (1,), (U, None))
            self.refused(state, "TooMany", 41, (U,) * 41)

    def test_no_triple(self):
        for thing in odd_values() + [((0,),), ((0,), "a"), ((0,), "a", None, None), [(0,), None, None], (0,)]:
            if not (isinstance(thing, tuple) and len(thing) == 3):
                self.refused(thing, "BadPlace", thing)

    def test_no_place(self):
        things = odd_values() + [
            (1, 0), (0, 3), (2,), (-1,), (0, 0, 0), (0, -1), (10 ** 5000,), "(0,)", 0, (None,), ("0",), ((0,),), (0, None),
        ]
        for thing in things:
            if thing not in ((0,),):
                self.refused((thing, None, None), "BadPlace", thing)
                self.refused((thing, "z", "z"), "BadPlace", thing)

    def test_true_and_false_in_places(self):
        for thing in ((False,), (True,), (0, False), (0, True), (False, 0), (False, 2)):
            got = refusal(steps_of, EXAMPLE_A, (thing, None, None))
            self.assertEqual(got[0], "BadPlace")
            self.assertIs(got[1], thing)
        got = refusal(steps_of, (), ((False,), None, None))
        self.assertEqual(got[0], "BadPlace")

    def test_no_elder(self):
        for thing in odd_values() + ["e", "r", "u", "X", "A", "ab", "None", ("a",), 0, (None,)]:
            if thing is not None and thing != "a":
                for younger in (None, "a", "z", thing):
                    for place in places(EXAMPLE_A):
                        self.refused((place, thing, younger), "BadThing", 0)

    def test_no_younger(self):
        for thing in odd_values() + ["e", "r", "u", "X", "A", "ab", "None", ("a",), 0, (None,)]:
            if thing is not None and thing != "a":
                for elder in WHERES:
                    self.refused(((0, 2), elder, thing), "BadThing", 1)

    def test_a_younger_one_without_an_elder_one(self):
        for younger in WHERES[1:]:
            for place in places(EXAMPLE_A):
                self.refused((place, None, younger), "BadThing", 1)

    def test_both_in_the_same_name(self):
        for name in NAMES:
            for place in places(EXAMPLE_A):
                self.refused((place, name, name), "BadThing", 1)

    def test_both_in_the_same_pile_or_ended(self):
        for where in ("p", "q", "x"):
            for place in places(EXAMPLE_A):
                self.assertIsNone(refusal(steps_of, EXAMPLE_A, (place, where, where)))

    def test_all_states_at_all_places(self):
        for place in places(LARGE):
            for elder, younger in itertools.product(WHERES, repeat=2):
                got = refusal(steps_of, LARGE, (place, elder, younger))
                self.assertEqual(got, None if is_state(elder, younger) else ("BadThing", 1))


class TestPlays(unittest.TestCase):
    """What the walker goes through is just what pairs go through in plays with as many choices."""

    def walked(self, program, most):
        """The words, and the states at which it waits or is at the end, of the walker by up to so many choices."""
        statements = statements_of(program)
        open_ones = [((first_place(program), None, None), (), 0)]
        met = set(open_ones)
        words = set()
        waits = set()
        while open_ones:
            state, word, many = open_ones.pop()
            statement = statements[state[0]]
            if statement is None or wants_choice(statement):
                waits.add(state)
            if wants_choice(statement):
                if many == most:
                    continue
                many += 1
            for letters, behind in steps_of(program, state):
                for size in range(len(letters) + 1):
                    if "y.new" in word + letters[:size]:
                        words.add(word + letters[:size])
                one = (behind, word + letters, many)
                if one not in met:
                    met.add(one)
                    open_ones.append(one)
        return (words, waits)

    def played(self, program, most):
        words = set()
        waits = set()
        for _, (events, _, place, names, piles) in plays_of(program, most):
            for word in words_of(events).values():
                words |= {word[:size] for size in range(len(word) + 1) if "y.new" in word[:size]}
            at = {}
            for _, deed, thing in events:
                at[thing] = "x"
            at.update({thing: where for where, thing in zip(NAMES, names) if thing is not None})
            for where, lying in zip(PILES, piles):
                at.update({thing: where for thing in lying})
            waits.add((place, None, None))
            waits |= {(place, at[i], None) for i in at}
            waits |= {(place, at[i], at[j]) for i in at for j in at if i < j}
        return (words, waits)

    def same(self, program, most):
        words, waits = self.walked(program, most)
        wanted_words, wanted_waits = self.played(program, most)
        self.assertEqual(words, wanted_words)
        self.assertEqual(waits, wanted_waits)
        return len(words)

    def test_examples(self):
        self.same(EXAMPLE, 0)
        for most in range(9):
            self.same(EXAMPLE_A, most)

    def test_at_random(self):
        source = random.Random(53)
        for _ in range(40):
            self.same(random_program(source, source.randint(3, 12), 3), 5)

    def test_lively_ones(self):
        source = random.Random(56)
        words = [self.same(lively_program(source, source.randint(4, 10), source.choice((2, 3))), 9) for _ in range(60)]
        self.assertGreater(sum(words), 400)

    def test_more_names(self):
        source = random.Random(54)
        words = [self.same(lively_program(source, 9, 2, ("a", "b", "c"), ("p",)), 9) for _ in range(40)]
        self.assertGreater(sum(words), 400)


if __name__ == "__main__":
    unittest.main()
