import random
import unittest

from anytwo.plays import play
from anytwo.programs import made_program
from anytwo.runs import told_run
from anytwo.tables import table
from anytwo.verdicts import breaks_at
from helpers import odd_values, refusal
from made_programs import EXAMPLE, EXAMPLE_A, lively_program, plays_of, slow_break
from made_tables import NONE, bad_tables, random_table

STAR = ("star", ("any",))
NEW = table("y.new")
NEW_A = ("new", "a")
U = ("do", "u", "a")
ENDS = table(("then", STAR, "y.end"))
MADE = table(("then", STAR, "y.new"))


class TestToldRun(unittest.TestCase):
    def test_by_name(self):
        self.assertEqual(told_run(program=(), table_=NEW, choices=()), "")

    def test_example(self):
        self.assertEqual(told_run(EXAMPLE, NEW, ()), "1: new 0 elder\n2: new 1 younger")

    def test_from_the_first_row_of_these_things_on(self):
        self.assertEqual(
            told_run(EXAMPLE, ENDS, ()), "1: new 0 elder\n2: new 1 younger\n3: u 0 elder\n4: end 1 younger"
        )
        program = (NEW_A, ("new", "b"), ("do", "v", "b"), ("new", "c"), ("put", "b", "q"), ("do", "u", "c"), ("end", "c"))
        told = table(("then", STAR, ("then", "e.putq", ("then", "y.u", "y.end"))))
        self.assertEqual(
            told_run(program, told, ()),
            "1: new 0\n2: new 1 elder\n3: v 1 elder\n4: new 2 younger\n5: putq 1 elder\n6: u 2 younger\n7: end 2 younger",
        )

    def test_up_to_the_break(self):
        program = (NEW_A, ("new", "b"), NEW_A, U)
        self.assertEqual(told_run(program, MADE, ()), "1: new 0 elder\n2: new 1 younger")
        told = table(("then", STAR, "e.end"))
        self.assertEqual(told_run(program, told, ()), "1: new 0 elder\n2: new 1 younger\n3: end 0 elder")
        told = table(("then", "e.end", "y.new"))
        self.assertEqual(told_run(program, told, ()), "1: new 0 elder\n2: new 1\n3: end 0 elder\n3: new 2 younger")

    def test_without_a_break(self):
        self.assertEqual(told_run(EXAMPLE, NONE, ()), "1: new 0\n2: new 1\n3: u 0\n4: end 1")
        self.assertEqual(told_run(EXAMPLE_A, ENDS, (1, 1, 1)), (
            "1: new 0\n2: putp 0\n3: takep 0\n4: new 1\n5: putp 1"
        ))
        self.assertEqual(told_run(EXAMPLE_A, NONE, (1, 1, 1, 0)), (
            "1: new 0\n2: putp 0\n3: takep 0\n4: new 1\n5: putp 1\n6: end 0"
        ))

    def test_steps_without_events(self):
        program = (("move", "a", "b"), NEW_A, ("move", "a", "b"), ("do", "w", "b"), ("end", "d"), ("end", "b"))
        self.assertEqual(told_run(program, NONE, ()), "2: new 0\n4: w 0\n6: end 0")

    def test_without_events(self):
        for program in ((), (U,), (("loop", (NEW_A,)),), (("take", "p", "a"), NEW_A)):
            self.assertEqual(told_run(program, NEW, ()), "")
        self.assertEqual(told_run((("loop", (U,)),), NEW, (1, 1, 0)), "")

    def test_choices_behind_the_break(self):
        program = (NEW_A, ("new", "b"), ("loop", (U,)), ("end", "b"))
        for choices in ((), (5,), (-1,), (0, 0), (1, 1, 7), (10 ** 5000,), (7,) * 3000):
            self.assertEqual(told_run(program, NEW, choices), "1: new 0 elder\n2: new 1 younger")
        for choices in ((0,), (0, 9), (0,) * 3000):
            self.assertEqual(told_run(program, ENDS, choices), (
                "1: new 0 elder\n2: new 1 younger\n3: end 1 younger"
            ))

    def test_errors_of_choices(self):
        program = (NEW_A, ("new", "b"), ("loop", (U,)), ("end", "b"))
        self.assertEqual(refusal(told_run, program, ENDS, (5,)), ("BadChoices", 0))
        self.assertEqual(refusal(told_run, program, ENDS, (1, 1, -1, 0)), ("BadChoices", 2))
        self.assertEqual(refusal(told_run, program, NONE, (0, 0)), ("BadChoices", 1))
        self.assertEqual(refusal(told_run, program, NEW, (0,) * 3001), ("TooMany", 3001))
        self.assertEqual(refusal(told_run, EXAMPLE, NONE, (0,)), ("BadChoices", 0))
        self.assertEqual(refusal(told_run, (), NONE, (1,)), ("BadChoices", 0))
        many = (("loop", (NEW_A,)),)
        self.assertEqual(refusal(told_run, many, NONE, (1,) * 201), ("TooMany", 201))
        self.assertEqual(refusal(told_run, many, ENDS, (1,) * 201), None)
        self.assertEqual(len(told_run(many, NONE, (1,) * 200).split("\n")), 399)
        self.assertEqual(refusal(told_run, many, NONE, (1,) * 200 + (2,)), ("BadChoices", 200))

    def test_errors_in_their_order(self):
        for choices in ((), (9,), (0,) * 3001):
            for thing, name, what in bad_tables():
                self.assertEqual(refusal(told_run, EXAMPLE, thing, choices), (name, what))
                self.assertEqual(refusal(told_run, None, thing, choices), ("BadProgram", ()))
                self.assertEqual(refusal(told_run, (NEW_A,) * 41, thing, choices), ("TooMany", 41))
            for thing in odd_values():
                self.assertEqual(refusal(told_run, EXAMPLE, thing, choices), ("BadTable", 0))
                if thing != ():
                    self.assertEqual(refusal(told_run, thing, None, choices), refusal(made_program, thing))

    def test_beside_play_and_breaks_at(self):
        source = random.Random(81)
        broken = 0
        for _ in range(40):
            program = lively_program(source, source.randint(3, 9), 2)
            told = random_table(source, source.randint(1, 5), 0.2)
            for choices, (events, *_) in plays_of(program, 5):
                found = slow_break(told, events)
                self.assertEqual(found, breaks_at(program, told, choices))
                rows = [f"{step}: {deed} {thing}" for step, deed, thing in events]
                if found is not None:
                    broken += 1
                    step, i, j = found
                    marks = {i: " elder", j: " younger"}
                    rows = [row + marks.get(thing, "") for row, (_, _, thing) in zip(rows, events)]
                    many = len([one for one in events if one[0] < step])
                    while slow_break(told, events[:many]) is None:
                        many += 1
                    rows = rows[:many]
                self.assertEqual(told_run(program, told, choices), "\n".join(rows))
                self.assertEqual(play(program, choices)[0], events)
        self.assertGreater(broken, 100)


if __name__ == "__main__":
    unittest.main()
