import unittest

from anytwo.letters import LETTERS
from anytwo.words import pair_word
from helpers import refusal

EXAMPLE = (("new", "a"), ("new", "b"), ("do", "u", "a"), ("end", "b"))


class TestLetters(unittest.TestCase):
    def test_the_seventeen_in_their_order(self):
        deeds = ("putp", "putq", "takep", "takeq", "end", "u", "v", "w")
        letters = tuple("e." + deed for deed in deeds) + tuple("y." + deed for deed in deeds) + ("y.new",)
        self.assertEqual(LETTERS, letters)


class TestPairWord(unittest.TestCase):
    def test_example(self):
        self.assertEqual(pair_word(EXAMPLE, (), 0, 1), ("y.new", "e.u", "y.end"))
        self.assertEqual(pair_word(program=EXAMPLE, choices=(), i=0, j=1), ("y.new", "e.u", "y.end"))

    def test_a_thing_that_ended_ahead_of_the_making_of_the_other(self):
        self.assertEqual(pair_word((("new", "a"), ("new", "a")), (), 0, 1), ("e.end", "y.new"))
        self.assertEqual(
            pair_word((("new", "a"), ("do", "v", "a"), ("end", "a"), ("new", "c"), ("end", "c")), (), 0, 1),
            ("e.v", "e.end", "y.new", "y.end"),
        )

    def test_just_the_two_are_told(self):
        program = (
            ("new", "a"), ("new", "b"), ("do", "u", "a"), ("new", "c"), ("do", "v", "b"), ("do", "w", "c"),
            ("put", "b", "p"), ("put", "c", "q"), ("put", "a", "q"),
        )
        self.assertEqual(pair_word(program, (), 0, 1), ("y.new", "e.u", "y.v", "y.putp", "e.putq"))
        self.assertEqual(pair_word(program, (), 0, 2), ("e.u", "y.new", "y.w", "y.putq", "e.putq"))
        self.assertEqual(pair_word(program, (), 1, 2), ("y.new", "e.v", "y.w", "e.putp", "y.putq"))

    def test_each_letter(self):
        for x, sign in (("a", "e."), ("b", "y.")):
            for pile in ("p", "q"):
                program = (("new", "a"), ("new", "b"), ("put", x, pile), ("take", pile, x), ("end", x))
                self.assertEqual(
                    pair_word(program, (1,), 0, 1), ("y.new", sign + "put" + pile, sign + "take" + pile, sign + "end")
                )
            program = (("new", "a"), ("new", "b"), ("do", "u", x), ("do", "v", x), ("do", "w", x), ("move", x, "d"))
            self.assertEqual(pair_word(program, (), 0, 1), ("y.new", sign + "u", sign + "v", sign + "w"))

    def test_two_letters_of_one_step(self):
        program = (("new", "a"), ("put", "a", "p"), ("new", "b"), ("take", "p", "b"))
        self.assertEqual(pair_word(program, (1,), 0, 1), ("e.putp", "y.new", "y.end", "e.takep"))

    def test_a_play_that_stops_early(self):
        program = (("new", "a"), ("new", "b"), ("loop", (("do", "u", "b"),)), ("end", "a"))
        self.assertEqual(pair_word(program, (), 0, 1), ("y.new",))
        self.assertEqual(pair_word(program, (1, 1), 0, 1), ("y.new", "y.u", "y.u"))
        self.assertEqual(pair_word(program, (1, 0), 0, 1), ("y.new", "y.u", "e.end"))

    def test_many_things(self):
        program = (("loop", (("new", "a"), ("put", "a", "p"))),)
        choices = (1,) * 200
        self.assertEqual(pair_word(program, choices, 198, 199), ("e.putp", "y.new", "y.putp"))
        self.assertEqual(refusal(pair_word, program, choices, 199, 200), ("BadThing", 1))
        self.assertEqual(refusal(pair_word, program, choices, 200, 201), ("BadThing", 0))

    def test_things_that_are_not_made(self):
        for i in (-1, 2, 3, 10 ** 5000, -10 ** 5000):
            for j in (-1, 0, 1, 2, 10 ** 5001):
                self.assertEqual(refusal(pair_word, EXAMPLE, (), i, j), ("BadThing", 0))
        for j in (-1, 2, 10 ** 5000, -10 ** 5000):
            self.assertEqual(refusal(pair_word, EXAMPLE, (), 0, j), ("BadThing", 1))

    def test_alike_and_above(self):
        self.assertEqual(refusal(pair_word, EXAMPLE, (), 0, 0), ("BadThing", 1))
        self.assertEqual(refusal(pair_word, EXAMPLE, (), 1, 1), ("BadThing", 1))
        self.assertEqual(refusal(pair_word, EXAMPLE, (), 1, 0), ("BadThing", 1))

    def test_no_things(self):
        self.assertEqual(refusal(pair_word, (), (), 0, 1), ("BadThing", 0))
        self.assertEqual(refusal(pair_word, (("new", "a"),), (), 0, 1), ("BadThing", 1))

    def test_things_that_are_made_later(self):
        program = (("new", "a"), ("loop", (("new", "b"),)))
        self.assertEqual(refusal(pair_word, program, (), 0, 1), ("BadThing", 1))
        self.assertEqual(pair_word(program, (1,), 0, 1), ("y.new",))

    def test_errors_of_program_and_choices_come_first(self):
        for i, j in ((0, 1), (9, 9), (0, 9)):
            self.assertEqual(refusal(pair_word, None, (5,), i, j), ("BadProgram", ()))
            self.assertEqual(refusal(pair_word, EXAMPLE, (0,), i, j), ("BadChoices", 0))
            self.assertEqual(refusal(pair_word, EXAMPLE, (0,) * 3001, i, j), ("TooMany", 3001))
            self.assertEqual(refusal(pair_word, (("loop", (("new", "a"),)),), (1,) * 201, i, j), ("TooMany", 201))


if __name__ == "__main__":
    unittest.main()
