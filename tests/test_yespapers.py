import random
import time
import unittest

from anytwo.layouts import first_place
from anytwo.letters import LETTERS
from anytwo.places import places
from anytwo.programs import made_program
from anytwo.reach import reach
from anytwo.tables import least, table
from anytwo.tablesums import joined, word_table
from anytwo.verdicts import keeps, least_steps
from anytwo.walker import steps_of
from anytwo.yespapers import yes_paper, yes_right
from expressions import random_rule
from helpers import deep, odd_values, refusal
from made_programs import EXAMPLE, EXAMPLE_A, LARGE, lively_program, random_program
from made_tables import NONE, bad_tables, random_table, ring

ANY = ("any",)
STAR = ("star", ANY)
WHERES = (None, "a", "b", "c", "d", "p", "q", "x")
# Broken by each word with y.new.
ALL = (((0,) * 17,), (True,))
NEW = table("y.new")
NEW_A = ("new", "a")
U = ("do", "u", "a")


def led(told, state, letters):
    for letter in letters:
        state = told[0][state][LETTERS.index(letter)]
    return state


def in_order(program, quadruples):
    order = places(program)
    return tuple(sorted(quadruples, key=lambda one: (
        order.index(one[0]), WHERES.index(one[1]), WHERES.index(one[2]), one[3]
    )))


def slow_paper(program, told):
    """All that the walker and the table come to together, by the steps at each state."""
    met = {(first_place(program), None, None, 0)}
    open_ones = list(met)
    while open_ones:
        one = open_ones.pop()
        for letters, behind in steps_of(program, one[:3]):
            onward = (*behind, led(told, one[3], letters))
            if onward not in met:
                met.add(onward)
                open_ones.append(onward)
    return in_order(program, met)


def is_right(program, told, paper):
    """Whether these quadruples, which are quadruples in order, are a right paper."""
    held = set(paper)
    return (first_place(program), None, None, 0) in held and all(
        (*behind, led(told, one[3], letters)) in held and not (one[2] is not None and told[1][one[3]])
        for one in paper for letters, behind in steps_of(program, one[:3]) or (((), one[:3]),)
    )


def kept_tables(source, program, many):
    """Tables that the program keeps: random ones without what it breaks."""
    found = [NONE, (((0,) * 17,) * 3, (False, False, True))]
    while len(found) < many:
        told = random_table(source, source.randint(2, 6), 0.15, source.choice((3, 17)))
        if source.randrange(2):
            told = table(random_rule(source, source.randint(3, 10), ("e.u", "e.end", "y.putp", "y.new")))
        for _ in range(30):
            if keeps(program, told):
                found.append(told)
                break
            moves, bad = told
            told = (moves, tuple(is_bad and source.random() < 0.6 for is_bad in bad))
    return found


class TestYesPaper(unittest.TestCase):
    def good(self, program, told):
        got = yes_paper(program, told)
        self.assertIs(got.__class__, tuple)
        self.assertEqual(got, slow_paper(program, told))
        self.assertIs(yes_right(program, told, got), True)
        self.assertTrue(is_right(program, told, got))
        for one in got:
            self.assertEqual([part.__class__ for part in (one, one[0], one[3])], [tuple, tuple, int])
        return got

    def test_by_name(self):
        paper = yes_paper(program=(), table_=NEW)
        self.assertIs(yes_right(program=(), table_=NEW, paper=paper), True)

    def test_example(self):
        for told in (NONE, NEW, ALL, ring(5, (0, 1))):
            self.assertEqual(self.good((), told), (((0,), None, None, 0),))

    def test_two_things(self):
        self.assertEqual(
            self.good((NEW_A, NEW_A), NEW),
            (
                ((0,), None, None, 0), ((1,), None, None, 0), ((1,), "a", None, 0), ((2,), None, None, 0), ((2,), "a", None, 0),
                ((2,), "x", None, 1), ((2,), "x", "a", 1),
            ),
        )

    def test_a_table_of_one_state_that_nothing_breaks(self):
        for program in (EXAMPLE, EXAMPLE_A, LARGE, (("loop", ()),), (("either", (), (NEW_A,)),)):
            self.assertEqual(self.good(program, NONE), tuple((*state, 0) for state in reach(program)))

    def test_several_states_of_the_table_at_one_of_the_walker(self):
        told = (tuple((state,) * 5 + ((state + 1) % 3,) + (state,) * 11 for state in range(3)), (False,) * 3)
        got = self.good((NEW_A, ("loop", (U,)), ("new", "b")), told)
        self.assertEqual([one for one in got if one[0] == (3,)], [
            ((3,), None, None, 0), ((3,), "a", None, 0), ((3,), "a", None, 1), ((3,), "a", None, 2),
            ((3,), "a", "b", 0), ((3,), "a", "b", 1), ((3,), "a", "b", 2),
            ((3,), "b", None, 0),
        ])

    def test_bad_states_while_the_younger_thing_is_not_picked(self):
        told = (((0,) * 5 + (1,) + (0,) * 11, (0,) * 17), (False, True))
        got = self.good((NEW_A, U, ("new", "b")), told)
        self.assertIn(((2,), "a", None, 1), got)
        self.assertNotIn(((3,), "a", "b", 1), got)

    def test_at_random(self):
        source = random.Random(71)
        sizes = set()
        for _ in range(50):
            program = source.choice((lively_program, random_program))(source, source.randint(2, 10), 3)
            for told in kept_tables(source, program, 5):
                self.assertTrue(keeps(program, told))
                sizes.add(len(self.good(program, told)))
        self.assertGreater(len(sizes), 45)

    def test_broken(self):
        self.assertEqual(refusal(yes_paper, EXAMPLE, NEW), ("Broken", 2))
        self.assertEqual(refusal(yes_paper, EXAMPLE, table(("then", STAR, "y.end"))), ("Broken", 4))
        source = random.Random(72)
        answers = set()
        for _ in range(100):
            program = lively_program(source, source.randint(3, 12), 3)
            told = random_table(source, source.randint(1, 5), 0.1)
            steps = least_steps(program, told)
            answers.add(steps)
            self.assertEqual(refusal(yes_paper, program, told), None if steps is None else ("Broken", steps))
        self.assertGreater(len(answers), 4)

    def test_broken_at_the_first_of_two_letters_alone(self):
        # Behind both letters the table is good again: no state that is come to tells of the break but that of the
        # take that takes nothing.
        program = (NEW_A, ("put", "a", "p"), ("new", "b"), ("take", "p", "b"))
        told = word_table(("e.putp", "y.new", "y.end"))
        self.assertEqual(refusal(yes_paper, program, told), ("Broken", 4))
        self.assertFalse(is_right(program, told, slow_paper(program, told)))
        self.assertIs(yes_right(program, told, slow_paper(program, told)), False)

    def test_errors_in_their_order(self):
        for thing, name, what in bad_tables():
            self.assertEqual(refusal(yes_paper, EXAMPLE, thing), (name, what))
            self.assertEqual(refusal(yes_paper, None, thing), ("BadProgram", ()))
            self.assertEqual(refusal(yes_paper, (NEW_A,) * 41, thing), ("TooMany", 41))
        for thing in odd_values():
            self.assertEqual(refusal(yes_paper, EXAMPLE, thing), ("BadTable", 0))
            if thing != ():
                self.assertEqual(refusal(yes_paper, thing, NEW), refusal(made_program, thing))

    def test_it_takes_no_time(self):
        source = random.Random(73)
        told = (random_table(source, 200, 0)[0], (False,) * 200)
        begun = time.monotonic()
        paper = yes_paper(LARGE, told)
        self.assertGreater(len(paper), 100000)
        self.assertLess(time.monotonic() - begun, 15)
        begun = time.monotonic()
        self.assertIs(yes_right(LARGE, told, paper), True)
        self.assertIs(yes_right(LARGE, told, paper[:-1]), False)
        self.assertLess(time.monotonic() - begun, 15)


class TestYesRight(unittest.TestCase):
    def setUp(self):
        # Example A, with a table that it keeps: the younger thing is not taken twice, one take right behind the other.
        self.program = EXAMPLE_A
        self.told = table(("then", STAR, ("then", "y.takep", "y.takep")))
        self.paper = yes_paper(self.program, self.told)
        self.assertGreater(len(self.paper), 30)

    def wrong(self, paper):
        self.assertIs(yes_right(self.program, self.told, paper), False)

    def test_right(self):
        self.assertIs(yes_right(self.program, self.told, self.paper), True)

    def test_a_quadruple_left_out(self):
        for at in range(len(self.paper)):
            self.wrong(self.paper[:at] + self.paper[at + 1:])
        self.wrong(())

    def test_told_twice(self):
        for at in range(len(self.paper)):
            self.wrong(self.paper[:at + 1] + self.paper[at:])
        self.wrong(self.paper + self.paper)

    def test_two_exchanged(self):
        for at in range(len(self.paper) - 1):
            one, two = self.paper[at:at + 2]
            self.wrong(self.paper[:at] + (two, one) + self.paper[at + 2:])
        self.wrong(tuple(reversed(self.paper)))
        self.wrong(self.paper[1:] + self.paper[:1])

    def test_the_order_of_places_and_of_things(self):
        # In another order of their parts: by s first, by the younger thing first, by places as texts ..
        for key in (
            lambda one: (one[3], one[0], WHERES.index(one[1]), WHERES.index(one[2])),
            lambda one: (one[0], WHERES.index(one[2]), WHERES.index(one[1]), one[3]),
            lambda one: (str(one[0]), WHERES.index(one[1]), WHERES.index(one[2]), one[3]),
            lambda one: (one[0], (WHERES.index(one[1]) + 7) % 8, WHERES.index(one[2]), one[3]),
            lambda one: (len(one[0]), one[0], WHERES.index(one[1]), WHERES.index(one[2]), one[3]),
        ):
            bent = tuple(sorted(self.paper, key=key))
            self.assertNotEqual(bent, self.paper)
            self.wrong(bent)

    def test_one_part_changed(self):
        many = len(self.told[1])
        for at, (place, elder, younger, state) in enumerate(self.paper):
            bent = [(place, elder, younger, other) for other in range(-1, many + 2) if other != state]
            bent += [(place, other, younger, state) for other in WHERES if other != elder]
            bent += [(place, elder, other, state) for other in WHERES if other != younger]
            bent += [(other, elder, younger, state) for other in places(self.program) if other != place]
            for one in bent:
                self.wrong(self.paper[:at] + (one,) + self.paper[at + 1:])

    def test_quadruples_of_another_length(self):
        for at, one in enumerate(self.paper):
            for bent in (one[:3], one + (0,), one[1:], (), (one,), one[:2] + one[3:], one + one):
                self.wrong(self.paper[:at] + (bent,) + self.paper[at + 1:])
                self.wrong(self.paper[:at] + (bent,) + self.paper[at:])

    def test_true_and_false_for_numbers(self):
        seen = set()
        for at, (place, elder, younger, state) in enumerate(self.paper):
            bent = []
            if state in (0, 1):
                bent.append((place, elder, younger, bool(state)))
            for index, part in enumerate(place):
                if part in (0, 1):
                    bent.append((place[:index] + (bool(part),) + place[index + 1:], elder, younger, state))
            for one in bent:
                seen.add(len(bent))
                self.assertEqual(one, self.paper[at])
                self.wrong(self.paper[:at] + (one,) + self.paper[at + 1:])
        self.assertEqual(seen, {1, 2, 3})

    def test_no_quadruples(self):
        for thing in odd_values():
            self.wrong(thing)
            self.wrong((thing,))
            if not (isinstance(thing, tuple) and len(thing) > 1000):
                self.wrong(self.paper + (thing,))
                self.wrong((thing,) + self.paper)
                self.wrong(self.paper + ((thing, None, None, 0),))
                self.wrong(self.paper + (((1,), "x", "x", thing),))
                if thing is not None and thing != "a":
                    self.wrong(self.paper + (((1,), "x", thing, 0),))
                    self.wrong(self.paper + (((1,), thing, "x", 0),))
                    self.wrong(self.paper + (((1,), thing, None, 0),))

    def test_no_states_of_the_walker(self):
        for one in (
            ((1,), None, "a", 0), ((1,), "a", "a", 0), ((1,), "d", "d", 0), ((1,), "e", None, 0), ((2,), "x", "x", 0),
            ((0, 3), "x", "x", 0), ((), "x", "x", 0), ((-1,), "x", "x", 0), ("(1,)", "x", "x", 0), (1, "x", "x", 0),
            ((1, 0), "x", "x", 0),
        ):
            self.wrong(tuple(sorted(self.paper + (one,), key=str)))
            for at in range(len(self.paper) + 1):
                self.wrong(self.paper[:at] + (one,) + self.paper[at:])

    def test_no_states_of_the_table(self):
        many = len(self.told[1])
        for state in (-1, -many, -many - 1, many, many + 1, 200, 10 ** 5000, -10 ** 5000):
            for two in (("d", None), ("d", "q"), (None, None), ("x", "x")):
                self.wrong(self.added(((1,), *two, state)))
        for state in ("0", None, (0,)):
            self.wrong(self.paper + (((1,), "x", "x", state),))

    def test_a_bad_state_of_the_table(self):
        bad = self.told[1].index(True)
        # The end is behind all else, and no step leads on from it; so all that it may hold is its own.
        self.wrong(self.added(((1,), "x", "x", bad)))
        self.wrong(self.added(((1,), "a", "p", bad)))

    def added(self, *more):
        return in_order(self.program, set(self.paper) | set(more))

    def test_right_papers_that_are_not_the_least_one(self):
        bad = self.told[1].index(True)
        for elder in WHERES[1:]:
            more = ((1,), elder, None, bad)
            self.assertIs(yes_right(self.program, self.told, self.added(more)), True)
            for state in range(len(self.told[1])):
                if state != bad:
                    more = ((1,), elder, "x", state)
                    self.assertIs(yes_right(self.program, self.told, self.added(more)), True)
        self.assertIs(yes_right((), NEW, (((0,), None, None, 0), ((0,), "d", "q", 1))), True)
        self.assertIs(yes_right((), NEW, (((0,), None, None, 0), ((0,), "d", None, 2))), True)
        self.assertIs(yes_right((), NEW, (((0,), None, None, 0), ((0,), "d", "q", 2))), False)
        self.assertIs(yes_right((), NEW, (((0,), "d", "q", 1),)), False)

    def test_put_in_with_what_follows_missing(self):
        # What is put in is nowhere reached, and what follows it stands nowhere in the paper.
        held = set(self.paper)
        many = 0
        for place in places(self.program)[:-1]:
            for elder, younger in ((None, None), ("c", None), ("c", "d"), ("q", "q"), ("x", "d")):
                for state in range(len(self.told[1])):
                    one = (place, elder, younger, state)
                    if one not in held:
                        many += 1
                        self.wrong(self.added(one))
        self.assertGreater(many, 20)

    def test_put_in_with_all_that_follows(self):
        source = random.Random(74)
        for _ in range(60):
            program = lively_program(source, source.randint(2, 8), 3)
            told = source.choice(kept_tables(source, program, 5))
            paper = set(yes_paper(program, told))
            one = (source.choice(places(program)), *source.choice(((None, None), ("a", None), ("b", "p"), ("q", "x"), ("d", "a"))))
            open_ones = [(*one, source.randrange(len(told[1])))]
            while open_ones:
                one = open_ones.pop()
                if one not in paper:
                    paper.add(one)
                    open_ones += [
                        (*behind, led(told, one[3], letters)) for letters, behind in steps_of(program, one[:3])
                    ]
            right = not any(one[2] is not None and told[1][one[3]] for one in paper)
            self.assertIs(yes_right(program, told, in_order(program, paper)), right)

    def test_bent_papers_at_random(self):
        source = random.Random(75)
        answers = []
        for _ in range(300):
            program = lively_program(source, source.randint(2, 6), 3)
            told = source.choice(kept_tables(source, program, 4))
            paper = list(yes_paper(program, told))
            for _ in range(source.randint(1, 2)):
                bent = list(source.choice(paper))
                bent[3] = source.randrange(len(told[1]))
                bent[1] = source.choice((bent[1], bent[1], "x", "p", None if bent[2] is None else "q"))
                bent[0] = source.choice((bent[0], bent[0], places(program)[-1]))
                paper.append(tuple(bent))
                if source.randrange(3) == 0:
                    paper.pop(source.randrange(len(paper)))
            paper = in_order(program, set(paper))
            got = yes_right(program, told, paper)
            self.assertIs(got, is_right(program, told, paper))
            answers.append(got)
        self.assertGreater(answers.count(True), 20)
        self.assertGreater(answers.count(False), 20)

    def test_what_is_broken_has_no_right_paper(self):
        source = random.Random(76)
        many = 0
        for _ in range(150):
            program = lively_program(source, source.randint(2, 8), 3)
            told = random_table(source, source.randint(1, 4), 0.2, source.choice((3, 17)))
            paper = slow_paper(program, told)
            self.assertIs(yes_right(program, told, paper), keeps(program, told))
            everything = tuple(
                (place, elder, younger, state) for place in places(program) for elder in WHERES for younger in WHERES
                for state in range(len(told[1])) if (elder is not None or younger is None)
                and not (elder == younger and elder in ("a", "b", "c", "d")) and not (younger is not None and told[1][state])
            )
            if not keeps(program, told):
                many += 1
                self.assertIs(yes_right(program, told, everything), False)
        self.assertGreater(many, 30)

    def test_of_other_programs_and_tables(self):
        self.assertIs(yes_right(EXAMPLE, self.told, self.paper), False)
        self.assertIs(yes_right((), self.told, self.paper), False)
        self.assertIs(yes_right((("loop", EXAMPLE_A[0][1] + (U,)),), self.told, self.paper), False)
        self.assertIs(yes_right((("loop", (NEW_A, ("put", "a", "q"), ("take", "p", "b"))),), self.told, self.paper), False)
        self.assertIs(yes_right(self.program, NONE, self.paper), False)
        self.assertIs(yes_right(self.program, NEW, self.paper), False)
        self.assertIs(yes_right(self.program, joined(self.told, NEW, "or"), self.paper), False)
        # It holds all that comes about where the take takes nothing, but is not the least paper of that.
        self.assertIs(yes_right((("loop", (NEW_A, ("put", "a", "p"), ("take", "q", "b"))),), self.told, self.paper), True)
        # The same paper is right for a table of the same moves, if it is not bad where the pair comes to.
        moves, bad = self.told
        self.assertIs(yes_right(self.program, (moves, (False,) * len(bad)), self.paper), True)
        self.assertIs(yes_right(self.program, (moves, (True,) * len(bad)), self.paper), False)
        self.assertEqual(least(self.told), self.told)

    def test_no_programs_and_no_tables(self):
        for thing in odd_values() + [(None,), (NEW_A,) * 41, deep(100, "a")]:
            if thing != ():
                self.assertIs(yes_right(thing, self.told, self.paper), False)
                self.assertIs(yes_right(thing, NONE, (((0,), None, None, 0),)), False)
        for thing in odd_values() + [thing for thing, _, _ in bad_tables()]:
            self.assertIs(yes_right(self.program, thing, self.paper), False)
            self.assertIs(yes_right((), thing, (((0,), None, None, 0),)), False)
        self.assertIs(yes_right((), NONE, (((0,), None, None, 0),)), True)

    def test_odd_values_together(self):
        values = [thing for thing in odd_values() if not (isinstance(thing, tuple) and len(thing) > 100)]
        for one in values:
            for two in values:
                self.assertIs(yes_right(one, two, one), False)
                self.assertIs(yes_right(one, NONE, two), False)
                self.assertIs(yes_right((), one, two), False)


if __name__ == "__main__":
    unittest.main()
