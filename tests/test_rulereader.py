import random
import time
import unittest

from anytwo.letters import LETTERS
from anytwo.rulereader import read_rule, told_rule
from anytwo.rules import is_rule, made_rule
from anytwo.tables import table
from expressions import chain, random_rule
from helpers import odd_values, refusal

ANY = ("any",)
NOTHING = ("nothing",)
# What a part may be: signs, and further parts.
KINDS = [tuple(letter) for letter in LETTERS] + [tuple("any"), tuple("nothing")]
KINDS += [tuple(word) + ("(", "part", " ", "part", ")") for word in ("then", "or", "and")]
KINDS += [tuple(word) + ("(", "part", ")") for word in ("star", "not")]


def slow_refusal(text):
    """What read_rule raises: sign by sign, by all that may be yet to come. None if it raises nothing."""
    # Each rest with how many parts have begun ahead of it.
    rests = {(("part",), 0)}
    for index in range(len(text) + 1):
        begun = set()
        for rest, many in rests:
            if rest[:1] == ("part",):
                if many == 24:
                    return ("TooMany", 25)
                begun |= {(kind + rest[1:], many + 1) for kind in KINDS}
            else:
                begun.add((rest, many))
        if index == len(text):
            return None if ((), 0) in {(rest, 0) for rest, _ in begun} else ("BadText", index)
        rests = {(rest[1:], many) for rest, many in begun if rest[:1] == (text[index],)}
        if not rests:
            return ("BadText", index)


class TestToldRule(unittest.TestCase):
    def test_by_name(self):
        self.assertEqual(told_rule(rule="e.u"), "e.u")

    def test_each_kind(self):
        for letter in LETTERS:
            self.assertEqual(told_rule(letter), letter)
        self.assertEqual(told_rule(ANY), "any")
        self.assertEqual(told_rule(NOTHING), "nothing")
        for word in ("then", "or", "and"):
            self.assertEqual(told_rule((word, "e.u", ANY)), word + "(e.u any)")
        for word in ("star", "not"):
            self.assertEqual(told_rule((word, NOTHING)), word + "(nothing)")
        self.assertEqual(
            told_rule(("then", ("star", ANY), ("not", ("or", "y.new", ("and", "e.putp", ("star", NOTHING)))))),
            "then(star(any) not(or(y.new and(e.putp star(nothing)))))",
        )

    def test_errors(self):
        for thing in odd_values():
            self.assertEqual(refusal(told_rule, thing), refusal(made_rule, thing))
        self.assertEqual(refusal(told_rule, ("star", "e.x")), ("BadRule", 0))
        self.assertEqual(refusal(told_rule, chain("then", [ANY] * 13)), ("TooMany", 25))
        self.assertEqual(told_rule(("not", chain("or", ["e.u"] * 12)))[:18], "not(or(e.u or(e.u ")


class TestReadRule(unittest.TestCase):
    def good(self, rule):
        text = told_rule(rule)
        self.assertEqual(read_rule(text), rule)
        self.assertIsNone(slow_refusal(text))
        return text

    def bad(self, text, at):
        self.assertEqual(refusal(read_rule, text), ("BadText", at))
        self.assertEqual(slow_refusal(text), ("BadText", at))

    def same(self, text):
        """What it raises, beside the slow way; the text of what it reads is the text."""
        got = refusal(read_rule, text)
        self.assertEqual(got, slow_refusal(text))
        if got is None:
            self.assertEqual(told_rule(read_rule(text)), text)
            self.assertTrue(is_rule(read_rule(text)))
        return got

    def test_by_name(self):
        self.assertEqual(read_rule(text="star(any)"), ("star", ANY))

    def test_each_kind(self):
        for rule in [*LETTERS, ANY, NOTHING]:
            self.good(rule)
            for word in ("then", "or", "and"):
                self.good((word, rule, "y.w"))
                self.good((word, ("not", "e.w"), rule))
            for word in ("star", "not"):
                self.good((word, rule))
        self.assertEqual(read_rule("then(star(any) y.end)"), ("then", ("star", ANY), "y.end"))

    def test_there_and_back(self):
        source = random.Random(131)
        texts = {}
        for _ in range(500):
            rule = random_rule(source, source.randint(1, 24), LETTERS)
            self.assertEqual(texts.setdefault(self.good(rule), rule), rule)

    def test_texts_that_end_too_early(self):
        self.bad("", 0)
        text = "then(star(any) or(y.takep not(nothing)))"
        self.assertIsNone(self.same(text))
        for many in range(len(text)):
            self.bad(text[:many], many)

    def test_a_sign_behind_the_whole(self):
        for text in ("any", "nothing", "e.u", "y.putq", "star(any)", "or(any e.u)"):
            for sign in (" ", ")", "(", "a", "e", "\n", "\u00e9"):
                self.bad(text + sign, len(text))
                self.bad(text + sign * 3, len(text))

    def test_signs_ahead(self):
        for sign in (" ", "(", ")", ".", "x", "\n", "\t", "E", "A", "\u0435"):
            self.bad(sign + "any", 0)
            self.bad(sign, 0)

    def test_in_the_middle_of_a_letter_or_a_word(self):
        for text, at in (
            ("e", 1), ("ex", 1), ("e.", 2), ("e.x", 2), ("e.p", 3), ("e.pu", 4), ("e.pux", 4), ("e.put", 5), ("e.putr", 5), ("e.put ", 5),
            ("e.take", 6), ("e.tax", 4), ("e.enf", 4), ("e.n", 2), ("e.new", 2), ("y.new", None), ("y.nex", 4), ("y.n", 3), ("e.uu", 3),
            ("e.u.", 3), ("y.newe", 5), ("E.u", 0), ("e,u", 1), ("e .u", 1), ("ee.u", 1), ("x.u", 0), ("ye.u", 1),
        ):
            if at is None:
                self.assertIsNone(self.same(text))
            else:
                self.bad(text, at)
                if at == len(text):
                    self.bad("star(" + text, at + 5)
                else:
                    self.bad("star(" + text + ")", at + 5)

    def test_beginnings_that_words_share(self):
        for text, at in (
            ("a", 1), ("an", 2), ("ax", 1), ("anx", 2), ("and", 3), ("and ", 3), ("andx", 3), ("any(", 3), ("any(e.u)", 3), ("an(", 2),
            ("n", 1), ("no", 2), ("not", 3), ("noth", 4), ("nothing(", 7), ("not ", 3), ("nox", 2), ("noti", 3), ("nothin", 6),
            ("nothinG", 6), ("not(", 4), ("not()", 4), ("s", 1), ("st", 2), ("sta", 3), ("star", 4), ("star ", 4), ("stay", 3), ("o", 1),
            ("or", 2), ("or ", 2), ("of", 1), ("t", 1), ("then", 4), ("ther", 3), ("then (", 4), ("then( ", 5), ("then(any", 8),
            ("then(any)", 8), ("then(any ", 9), ("then(any  any)", 9), ("then(any any", 12), ("then(any any any)", 12),
            ("then(any,any)", 8), ("then(any any )", 12), ("star(any any)", 8), ("star(any", 8), ("star( any)", 5), ("not(any e.u)", 7),
            ("or(e.u)", 6), ("and(e.u", 7), ("and(e.u any))", 12), ("then(and(", 9), ("then(any an", 11), ("then(e.u e.)", 11),
        ):
            self.bad(text, at)

    def test_too_many_parts(self):
        whole = told_rule(("not", chain("or", ["e.u"] * 12)))
        self.assertIsNone(self.same(whole))
        nested = "star(" * 23
        self.assertIsNone(self.same(nested + "any" + ")" * 23))
        # The 25th part must begin, whatever stands there.
        for rest in ("", "any", "any" + ")" * 24, "x", " ", ")", "(", "e.u)))", "then(", "\n"):
            self.assertEqual(self.same("star(" * 24 + rest), ("TooMany", 25))
            self.assertEqual(self.same("not(" * 24 + rest), ("TooMany", 25))
            self.assertEqual(self.same("star(" * 23 + "or(" + rest), ("TooMany", 25))
        self.assertEqual(self.same("star(" * 100), ("TooMany", 25))

    def test_too_many_parts_at_the_second_one(self):
        # 22 parts, the 23rd one with two within it: the 24th one is the first of them, the 25th one the second.
        ahead = "star(" * 22 + "or("
        for rest in ("", "any", "any" + ")" * 30, "x", " "):
            self.assertEqual(self.same(ahead + "e.u " + rest), ("TooMany", 25))
        # But where it does not come to the 25th part the text is bad.
        for text, at in ((ahead, 0), (ahead + "x", 0), (ahead + "e.u", 3), (ahead + "e.u)", 3), (ahead + "e.ux", 3), (ahead + "e.", 2)):
            self.bad(text, len(ahead) + at)
        self.bad("star(" * 23, 115)
        self.bad("star(" * 23 + "star", 119)
        self.bad("star(" * 23 + "star ", 119)
        self.bad("star(" * 23 + "any", 118)
        self.bad("star(" * 23 + "any" + ")" * 24, 141)
        self.bad("star(" * 23 + "e.u e.u", 118)
        # Also by many parts beside each other.
        row = "or(e.u " * 12
        self.bad(row[:-1], 83)
        self.assertEqual(self.same(row), ("TooMany", 25))
        self.assertEqual(self.same("not(" + row), ("TooMany", 25))
        self.bad("not(" + row[:-8] + "or(x", 80)

    def test_texts_changed_by_one_sign(self):
        source = random.Random(132)
        signs = "abdehiknoprstuvwxy.() "
        answers = {}
        for _ in range(1500):
            text = told_rule(random_rule(source, source.randint(1, 24), LETTERS))
            at = source.randint(0, len(text))
            kind = source.randrange(4)
            if kind == 0:
                text = text[:at] + text[at + 1:]
            elif kind == 1:
                text = text[:at] + source.choice(signs) + text[at:]
            elif kind == 2:
                text = text[:at] + source.choice(signs) + text[at + 1:]
            else:
                other = told_rule(random_rule(source, source.randint(1, 24), LETTERS))
                text = text[:at] + other + text[at:]
            got = self.same(text)
            answers[got and got[0]] = answers.get(got and got[0], 0) + 1
        self.assertGreater(min(answers.values()), 10)
        self.assertEqual(set(answers), {None, "BadText", "TooMany"})

    def test_rows_of_beginnings(self):
        source = random.Random(133)
        pieces = ["".join(kind[:kind.index("part")] if "part" in kind else kind) for kind in KINDS] + [" ", ")", "a", "e."]
        for _ in range(2000):
            self.same("".join(source.choice(pieces) for _ in range(source.randint(1, 12))))
            self.same("star(" * source.randint(18, 24) + "".join(source.choice(pieces) for _ in range(source.randint(1, 6))))

    def test_long_texts(self):
        begun = time.monotonic()
        self.assertEqual(refusal(read_rule, "star(" * 100000), ("TooMany", 25))
        self.assertEqual(refusal(read_rule, "any" + "x" * 1000000), ("BadText", 3))
        self.assertEqual(refusal(read_rule, "e" * 1000000), ("BadText", 1))
        self.assertLess(time.monotonic() - begun, 5)

    def test_what_is_read_is_a_rule(self):
        self.assertEqual(table(read_rule("then(star(any) y.end)")), table(("then", ("star", ANY), "y.end")))


if __name__ == "__main__":
    unittest.main()
