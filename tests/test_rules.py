import itertools
import random
import time
import unittest

from anytwo.letters import LETTERS
from anytwo.rules import is_rule, made_rule, word_in
from expressions import behind_the_last, chain, describes, random_rule, random_word
from helpers import deep, odd_values, refusal

ANY = ("any",)
KINDS = {"then": 2, "or": 2, "and": 2, "star": 1, "not": 1}


def stars(many, core):
    for _ in range(many):
        core = ("star", core)
    return core


class TestForms(unittest.TestCase):
    def let(self, thing):
        self.assertIs(made_rule(thing), thing)
        self.assertIs(made_rule(thing=thing), thing)
        self.assertIs(is_rule(thing), True)
        self.assertIs(is_rule(thing=thing), True)

    def bad(self, thing):
        for whole in (thing, ("star", thing), ("then", thing, ANY), ("or", "e.u", ("and", ANY, thing))):
            self.assertEqual(refusal(made_rule, whole), ("BadRule", 0))
            self.assertIs(is_rule(whole), False)

    def test_letters(self):
        for letter in LETTERS:
            self.let(letter)
        for text in ("", "e.new", "e", "y.", "E.U", "e.u ", "any", "nothing", "u", "e.ue.v", "y.newy"):
            self.bad(text)

    def test_each_kind(self):
        self.let(("any",))
        self.let(("nothing",))
        for kind, many in KINDS.items():
            self.let((kind,) + ("y.u",) * many)
            self.let((kind,) + (ANY,) * many)
            self.let((kind,) + (("not", "e.u"),) * many)

    def test_too_short_and_too_long(self):
        for kind in ("any", "nothing", "then", "or", "and", "star", "not"):
            for many in range(5):
                if many != KINDS.get(kind, 0):
                    self.bad((kind,) + ("e.u",) * many)
                    self.bad((kind,) + (ANY,) * many)

    def test_wrong_words(self):
        for word in ("", "Any", "xor", "e.u", "y.new", "all", None, True, 0, (), ("any",), ("star",)):
            for many in range(3):
                self.bad((word,) + ("e.u",) * many)

    def test_things_that_are_none(self):
        for thing in (None, True, False, 0, 1, 10 ** 5000, (), ((),), (None,)):
            self.bad(thing)
            self.bad(("not", thing))
            self.bad(("or", thing, ANY))
            self.bad(("or", ANY, thing))

    def test_nested(self):
        self.let(("then", ("star", ("or", "e.u", ("not", "y.u"))), ("and", ("nothing",), ("star", ("star", ANY)))))


class TestCounting(unittest.TestCase):
    def refused(self, thing, name, what):
        self.assertEqual(refusal(made_rule, thing), (name, what))
        self.assertIs(is_rule(thing), False)

    def test_twenty_four_and_twenty_five(self):
        self.assertIs(is_rule(stars(23, ANY)), True)
        self.refused(stars(24, ANY), "TooMany", 25)
        self.refused(stars(98, ANY), "TooMany", 25)
        wide = chain("or", ["e.u"] * 12)
        self.assertIs(is_rule(wide), True)
        self.assertIs(is_rule(("not", wide)), True)
        self.refused(("not", ("not", wide)), "TooMany", 25)
        self.refused(chain("or", ["e.u"] * 13), "TooMany", 25)

    def test_a_part_counts_as_often_as_it_stands_there(self):
        shared = chain("then", [ANY] * 6)
        self.assertIs(is_rule(("or", shared, shared)), True)
        self.refused(("or", shared, ("or", shared, "e.u")), "TooMany", 25)

    def test_counted_ahead_of_its_form(self):
        for thing in (None, (), "x", ("star",), ("any", 1), 0):
            self.refused(stars(24, thing), "TooMany", 25)
            self.refused(stars(23, thing), "BadRule", 0)

    def test_a_bad_part_ahead_of_the_twenty_fifth(self):
        long = chain("or", ["e.u"] * 20)
        self.refused(("then", "x", long), "BadRule", 0)
        self.refused(("then", long, "x"), "TooMany", 25)
        self.refused(("then", ("star", None), long), "BadRule", 0)
        self.refused(("and", long), "BadRule", 0)
        self.refused(("and", long, long, long), "BadRule", 0)
        self.refused(("other", long, long), "BadRule", 0)

    def test_in_the_order_in_which_they_are_written(self):
        first = chain("or", ["e.u"] * 11)
        self.assertIs(is_rule(("then", first, ANY)), True)
        # ("then", 21 parts, ("star", x)): the star is the 23rd part, x the 24th one.
        self.refused(("then", first, ("star", "x")), "BadRule", 0)
        self.refused(("then", first, ("star", ("star", "x"))), "TooMany", 25)
        self.refused(("then", ("star", ("star", "x")), first), "BadRule", 0)
        # What stands within a bad part is not looked at.
        self.refused(("then", ("star", stars(30, ANY), ANY), ANY), "BadRule", 0)


class TestJudges(unittest.TestCase):
    def test_is_rule_is_true_just_where_nothing_is_raised(self):
        for thing in odd_values():
            self.assertIs(is_rule(thing), False)
            self.assertIsNotNone(refusal(made_rule, thing))

    def test_word_in_of_odd_rules(self):
        for thing in odd_values():
            for word in ((), ("e.u",)):
                self.assertIs(word_in(thing, word), False)
            self.assertIs(word_in(("star", thing), ()), False)

    def test_word_in_of_odd_words(self):
        for thing in odd_values():
            self.assertIs(word_in(("star", ANY), thing), thing == ())
            self.assertIs(word_in(("not", ("nothing",)), thing), False)
        for word in (("e.u", None), ("e.u", True), ("e.new",), ("e.u", ("e.u",)), "e.u", ("",), (deep(98),), [ANY]):
            self.assertIs(word_in(("star", ANY), word), False)

    def test_rules_of_too_many_parts(self):
        self.assertIs(word_in(stars(23, ANY), ("e.u",)), True)
        self.assertIs(word_in(stars(24, ANY), ("e.u",)), False)


class TestWordIn(unittest.TestCase):
    def holds(self, rule, *words):
        for word in words:
            self.assertIs(word_in(rule, word), True, (rule, word))

    def lacks(self, rule, *words):
        for word in words:
            self.assertIs(word_in(rule, word), False, (rule, word))

    def test_by_name(self):
        self.assertIs(word_in(rule="e.u", word=("e.u",)), True)

    def test_letter(self):
        for letter in LETTERS:
            self.holds(letter, (letter,))
            self.lacks(letter, (), (letter, letter), (letter, "e.u"), ("e.u", letter))
            self.lacks(letter, *[(other,) for other in LETTERS if other != letter])

    def test_any(self):
        self.holds(ANY, *[(letter,) for letter in LETTERS])
        self.lacks(ANY, (), ("e.u", "e.u"), ("y.new", "e.u", "e.v"))

    def test_nothing(self):
        self.holds(("nothing",), ())
        self.lacks(("nothing",), ("e.u",), ("y.new",), ("e.u", "e.u"))

    def test_then(self):
        rule = ("then", "e.u", "y.u")
        self.holds(rule, ("e.u", "y.u"))
        self.lacks(rule, (), ("e.u",), ("y.u",), ("y.u", "e.u"), ("e.u", "y.u", "y.u"), ("e.u", "e.u", "y.u"))
        self.holds(("then", ("star", "e.u"), ("star", "y.u")), (), ("e.u",), ("y.u",), ("e.u", "e.u", "y.u", "y.u"))
        self.lacks(("then", ("star", "e.u"), ("star", "y.u")), ("y.u", "e.u"))
        self.holds(("then", ("nothing",), "e.u"), ("e.u",))
        self.holds(("then", "e.u", ("nothing",)), ("e.u",))
        self.holds(("then", ("nothing",), ("nothing",)), ())
        self.holds(("then", ("star", "e.u"), "e.u"), ("e.u",), ("e.u", "e.u"))

    def test_or(self):
        rule = ("or", "e.u", ("then", "y.u", "y.v"))
        self.holds(rule, ("e.u",), ("y.u", "y.v"))
        self.lacks(rule, (), ("y.u",), ("y.v",), ("e.u", "y.u"), ("e.u", "y.u", "y.v"))
        self.holds(("or", ("nothing",), "e.u"), (), ("e.u",))
        self.holds(("or", "e.u", "e.u"), ("e.u",))

    def test_and(self):
        ends = ("then", ("star", ANY), "e.u")
        begins = ("then", "y.u", ("star", ANY))
        self.holds(("and", ends, begins), ("y.u", "e.u"), ("y.u", "e.v", "e.u"))
        self.lacks(("and", ends, begins), (), ("y.u",), ("e.u",), ("e.u", "y.u"))
        self.lacks(("and", "e.u", "y.u"), (), ("e.u",), ("y.u",), ("e.u", "y.u"))
        self.lacks(("and", ("nothing",), "e.u"), (), ("e.u",))

    def test_star(self):
        self.holds(("star", "e.u"), (), ("e.u",), ("e.u", "e.u"), ("e.u",) * 50)
        self.lacks(("star", "e.u"), ("e.v",), ("e.u", "e.v"), ("e.v", "e.u"), ("e.u", "e.v", "e.u"))
        pairs = ("star", ("then", "e.u", "y.u"))
        self.holds(pairs, (), ("e.u", "y.u"), ("e.u", "y.u") * 3)
        self.lacks(pairs, ("e.u",), ("y.u", "e.u"), ("e.u", "y.u", "e.u"))
        self.holds(("star", ("nothing",)), ())
        self.lacks(("star", ("nothing",)), ("e.u",))
        both = ("star", ("or", ("then", "e.u", "e.u"), ("then", "e.u", ("then", "e.u", "e.u"))))
        self.holds(both, (), *[("e.u",) * many for many in range(2, 20)])
        self.lacks(both, ("e.u",))
        # A round may lead back to where it began without being at its end.
        back = ("star", ("then", ("star", ("then", "e.u", "e.u")), "y.u"))
        self.holds(back, (), ("y.u",), ("e.u", "e.u", "y.u"), ("y.u", "y.u"))
        self.lacks(back, ("e.u", "e.u"), ("e.u",), ("y.u", "e.u", "e.u"))

    def test_not(self):
        self.holds(("not", "e.u"), (), ("e.v",), ("e.u", "e.u"), ("y.new",))
        self.lacks(("not", "e.u"), ("e.u",))
        self.lacks(("not", ("star", ANY)), (), ("e.u",), ("y.new",))
        self.holds(("not", ("not", "e.u")), ("e.u",))
        self.lacks(("not", ("not", "e.u")), (), ("e.v",))
        self.holds(("not", ("nothing",)), ("e.u",), ("y.new", "y.u"))
        self.lacks(("not", ("nothing",)), ())

    def test_with_and_without_the_making(self):
        self.holds(("star", ANY), (), ("e.u",), ("y.new",), ("y.new", "y.new"), ("e.end", "y.u", "y.new"))
        self.holds(("then", ("star", ANY), "y.end"), ("y.end",), ("y.new", "y.end"), ("y.end", "y.end"))

    def test_nested(self):
        twice = ("then", ("star", ANY), ("then", "e.u", ("then", ("not", ("then", ("star", ANY), ("then", "y.u", ("star", ANY)))), "e.u")))
        self.holds(twice, ("e.u", "e.u"), ("y.u", "e.u", "e.v", "e.u"), ("e.u", "y.u", "e.u", "e.u"))
        self.lacks(twice, (), ("e.u",), ("e.u", "y.u", "e.u"), ("e.u", "e.u", "y.u"))

    def test_all_short_words_beside_the_second_way(self):
        source = random.Random(3)
        letters = ("e.u", "y.u", "y.new")
        words = [word for size in range(5) for word in itertools.product(letters, repeat=size)]
        for _ in range(150):
            rule = random_rule(source, source.randint(1, 24), letters)
            for word in words:
                self.assertIs(word_in(rule, word), describes(rule, word), (rule, word))

    def test_longer_words_beside_the_second_way(self):
        source = random.Random(4)
        for _ in range(300):
            letters = source.sample(LETTERS, 2)
            rule = random_rule(source, source.randint(5, 24), letters)
            word = random_word(source, source.randint(5, 25), letters)
            self.assertIs(word_in(rule, word), describes(rule, word), (rule, word))

    def test_long_words_take_no_time(self):
        source = random.Random(5)
        letters = ("e.u", "y.u")
        rules = [random_rule(source, 24, letters) for _ in range(20)]
        rules.append(behind_the_last("e.u", 10))
        rules.append(("not", ("star", ("then", ("star", ANY), ("or", ANY, ("then", ("star", "e.u"), ("then", (
            "star", ("then", ANY, "e.u")), ("star", ("then", ANY, ("then", ("star", ("then", "e.u", "e.u")), "y.u")))))
        )))))
        for rule in rules:
            word = random_word(source, 600, letters)
            begun = time.monotonic()
            word_in(rule, word)
            self.assertLess(time.monotonic() - begun, 10)
        word = ("e.u",) + ("y.u",) * 10
        begun = time.monotonic()
        self.assertIs(word_in(rules[20], word * 9000), True)
        self.assertIs(word_in(rules[20], word * 9000 + ("y.u",)), False)
        self.assertLess(time.monotonic() - begun, 20)


if __name__ == "__main__":
    unittest.main()
