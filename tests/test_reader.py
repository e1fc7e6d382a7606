import random
import time
import unittest

from anytwo.printer import told_text
from anytwo.programs import is_program, made_program
from anytwo.reader import read
from helpers import odd_values, refusal
from made_programs import EXAMPLE, EXAMPLE_A, LARGE, lively_program, random_program

# Each statement that has no body, with its row.
SIMPLE = (
    [(("new", x), "new " + x) for x in "abcd"] + [(("end", x), "end " + x) for x in "abcd"]
    + [(("put", x, p), f"put {x} {p}") for x in "abcd" for p in "pq"]
    + [(("take", p, x), f"take {p} {x}") for x in "abcd" for p in "pq"]
    + [(("move", x, y), f"move {x} {y}") for x in "abcd" for y in "abcd"]
    + [(("do", w, x), f"{w} {x}") for w in "uvw" for x in "abcd"]
)
BAD_ROWS = [
    "", " ", "new", "new ", " new a", "new a ", "new  a", "new\ta", "new a\r", "new a\x0b", "new a\x0c", "new a\x85", "new a\u2028",
    "new\xa0a", "new e", "new p", "new A", "New a", "new a b", "new ab", "newa", "new 0", "make a", "put a", "put p a", "put a b",
    "put a r", "put a p q", "put a p ", "put  a p", "put e p", "take a p", "take p", "take r a", "take p a a", "take p p", "take 1 a",
    "move a", "move a p", "move a b c", "move e a", "end", "end p", "end a a", "u", "u p", "u a b", "u e", "x a", "ua", "U a", "do u a",
    "do", "do a", "u u a", "loop", "loop{", "loop  {", "loop { ", " loop {", "loop {}", "loop { }", "loop a", "Loop {", "either", "either{",
    "either {  ", "either a b", "either { } or {", "} or", "or {", "}or{", "} or { ", " } or {", "} Or {", "}  or {", "} }", "}}", " }",
    "} ", "{", "}\r", "loop {\r", "} or {\u2028", "stop", "jump 0", "loop 3", "None", "()", "('new', 'a')", "new a;", "new a #", "\x00",
]


class TestToldText(unittest.TestCase):
    def test_by_name(self):
        self.assertEqual(told_text(program=EXAMPLE), "new a\nnew b\nu a\nend b")

    def test_simple_statements(self):
        for statement, row in SIMPLE:
            self.assertEqual(told_text((statement,)), row)

    def test_loops_and_eithers(self):
        self.assertEqual(told_text(()), "")
        self.assertEqual(told_text((("loop", ()),)), "loop {\n}")
        self.assertEqual(told_text((("either", (), ()),)), "either {\n} or {\n}")
        self.assertEqual(told_text(EXAMPLE_A), "loop {\nnew a\nput a p\ntake p b\n}")
        self.assertEqual(
            told_text((("new", "a"), ("either", (("do", "u", "a"),), (("loop", (("end", "a"),)), ("new", "b"))), ("end", "b"))),
            "new a\neither {\nu a\n} or {\nloop {\nend a\n}\nnew b\n}\nend b",
        )

    def test_errors(self):
        for thing in odd_values():
            if thing != ():
                self.assertEqual(refusal(told_text, thing), refusal(made_program, thing))
        self.assertEqual(refusal(told_text, (("new", "a"), ("loop", (("new", "e"),)))), ("BadProgram", (1, 0)))
        self.assertEqual(refusal(told_text, (("new", "a"),) * 41), ("TooMany", 41))


class TestRead(unittest.TestCase):
    def good(self, text, program):
        self.assertEqual(read(text), program)
        self.assertEqual(told_text(program), text)

    def bad(self, text, row):
        self.assertEqual(refusal(read, text), ("BadText", row))

    def test_by_name(self):
        self.assertEqual(read(text=""), ())

    def test_simple_statements(self):
        for statement, row in SIMPLE:
            self.good(row, (statement,))
            self.good(row + "\nu a\n" + row, (statement, ("do", "u", "a"), statement))

    def test_loops_and_eithers(self):
        self.good("", ())
        self.good("loop {\n}", (("loop", ()),))
        self.good("either {\n} or {\n}", (("either", (), ()),))
        self.good("either {\nu a\n} or {\n}\nv a", (("either", (("do", "u", "a"),), ()), ("do", "v", "a")))
        self.good("either {\n} or {\nu a\n}", (("either", (), (("do", "u", "a"),)),))
        self.good("loop {\nloop {\n}\n}\nloop {\n}", (("loop", (("loop", ()),)), ("loop", ())))
        self.good(
            "either {\neither {\n} or {\n}\n} or {\nloop {\neither {\nu a\n} or {\nv a\n}\n}\n}",
            (("either", (("either", (), ()),), (("loop", (("either", (("do", "u", "a"),), (("do", "v", "a"),)),)),)),),
        )

    def test_there_and_back(self):
        source = random.Random(121)
        for program in (EXAMPLE, EXAMPLE_A, LARGE):
            self.good(told_text(program), program)
        texts = {}
        for _ in range(400):
            program = source.choice((random_program, lively_program))(source, source.randint(0, 36), 6, ("a", "b", "c", "d"))
            if is_program(program):
                self.good(told_text(program), program)
                self.assertEqual(texts.setdefault(told_text(program), program), program)

    def test_bad_rows(self):
        for row in BAD_ROWS:
            if row != "":
                self.bad(row, 0)
            self.bad(row + "\nnew a", 0)
            self.bad("new a\n" + row, 1)
            self.bad("new a\n" + row + "\nnew e", 1)
            self.bad("loop {\n" + row + "\n}", 1)
            self.bad("either {\nu a\n" + row + "\n} or {\n}", 2)
            self.bad("either {\nu a\n} or {\n" + row + "\n}", 3)

    def test_line_ends(self):
        self.bad("\n", 0)
        self.bad("new a\n", 1)
        self.bad("new a\n\nnew b", 1)
        self.bad("\nnew a", 0)
        self.bad("loop {\n}\n", 2)
        # Other signs that end rows elsewhere are none here.
        for sign in ("\r", "\x0b", "\x0c", "\x1c", "\x1d", "\x1e", "\x85", "\u2028", "\u2029", "\r\n"):
            self.bad("new a" + sign + "new b", 0)
            self.bad("new a\nnew b" + sign, 1)
            self.bad("loop {" + sign + "}", 0)
        self.bad("new a\r\nnew b", 0)

    def test_rows_that_cannot_stand_there(self):
        self.bad("}", 0)
        self.bad("} or {", 0)
        self.bad("new a\n}", 1)
        self.bad("loop {\n}\n}", 2)
        self.bad("loop {\n} or {\n}", 1)
        self.bad("loop {\nu a\n} or {\n}", 2)
        self.bad("either {\n}", 1)
        self.bad("either {\nu a\n}\nu a", 2)
        self.bad("either {\n} or {\n} or {\n}", 2)
        self.bad("either {\n} or {\nu a\n} or {\nv a\n}", 3)
        self.bad("either {\n} or {\n}\n} or {\n}", 3)
        self.bad("either {\n} or {\n}\n}", 3)
        self.bad("either {\nloop {\n} or {\n}\n}", 2)
        self.bad("either {\nloop {\n}\n}\n} or {\n}", 3)
        self.bad("loop {\neither {\n}\n}", 2)
        self.bad("either {\neither {\n} or {\n}\n}\n} or {\n}", 4)

    def test_open_bodies(self):
        self.bad("loop {", 1)
        self.bad("either {", 1)
        self.bad("either {\n} or {", 2)
        self.bad("new a\nloop {\nu a", 3)
        self.bad("loop {\nloop {\n}", 3)
        self.bad("either {\nloop {\n}\n} or {\nu a", 5)
        # The first bad row comes ahead.
        self.bad("loop {\nnew e", 1)
        self.bad("loop {\n\n", 1)

    def test_the_whole_text_comes_ahead_of_too_many(self):
        many = "\n".join(["new a"] * 41)
        self.assertEqual(refusal(read, many), ("TooMany", 41))
        self.assertEqual(len(read("\n".join(["new a"] * 40))), 40)
        self.bad(many + "\nnew e", 41)
        self.bad(many + "\n}", 41)
        self.bad(many + "\nloop {", 42)
        self.bad(many + "\n", 41)
        deep = "\n".join(["loop {"] * 6)
        self.assertEqual(refusal(read, deep + "\n}" * 6), ("TooMany", 7))
        self.assertEqual(read("\n".join(["loop {"] * 5) + "\n}" * 5), (("loop", (("loop", (("loop", (("loop", (("loop", ()),)),)),)),)),))
        self.bad(deep + "\nnew e", 6)
        self.bad(deep + "\n}" * 5, 11)
        self.bad(deep + "\n}" * 7, 12)
        self.bad("\n".join(["loop {"] * 500), 500)

    def test_which_too_many(self):
        deep = "\n".join(["loop {"] * 6 + ["}"] * 6)
        # The seventh body comes behind the sixth statement, here the 40th or the 41st one.
        for ahead, what in ((0, 7), (34, 7), (35, 41), (40, 41)):
            text = "\n".join(["new a"] * ahead + [deep])
            self.assertEqual(refusal(read, text), ("TooMany", what))
        text = "\n".join([deep] + ["new a"] * 50)
        self.assertEqual(refusal(read, text), ("TooMany", 7))
        sixth = "\n".join(["either {", "} or {"] * 5 + ["either {", "new a", "} or {", "}"] + ["}"] * 5)
        self.assertEqual(refusal(read, sixth), ("TooMany", 7))
        self.assertEqual(refusal(read, "\n".join(["loop {"] * 3000 + ["}"] * 3000)), ("TooMany", 7))

    def test_long_texts(self):
        begun = time.monotonic()
        self.assertEqual(refusal(read, "\n".join(["loop {"] * 100000 + ["}"] * 100000)), ("TooMany", 7))
        self.assertEqual(refusal(read, "\n".join(["u a"] * 200000)), ("TooMany", 41))
        self.bad("\n".join(["u a"] * 200000 + [""]), 200000)
        self.bad("new " + "a" * 1000000, 0)
        self.bad("new" + " a" * 500000, 0)
        self.assertLess(time.monotonic() - begun, 10)


if __name__ == "__main__":
    unittest.main()
