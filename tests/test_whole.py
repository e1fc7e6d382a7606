"""What holds over the whole program: the order of errors, the names of arguments, and [0.3] on drawn inputs."""

import inspect
import itertools
import random
import unittest

from anytwo import errors
from anytwo.alikes import alike, part_of, parting
from anytwo.book import Book
from anytwo.code import compiled
from anytwo.machine import run, watch
from anytwo.places import next_place, places
from anytwo.plays import play
from anytwo.printer import told_text
from anytwo.programs import is_program, made_program
from anytwo.programtables import program_table, tightest
from anytwo.reach import reach
from anytwo.reader import read
from anytwo.rulereader import read_rule, told_rule
from anytwo.rules import is_rule, made_rule, word_in
from anytwo.runs import told_run
from anytwo.tables import least, table
from anytwo.tablesums import apart, implies, implies_not, joined, word_table
from anytwo.tabletexts import table_of, table_text
from anytwo.verdicts import breaking, breaks_at, keeps, least_steps
from anytwo.walker import steps_of
from anytwo.words import pair_word
from anytwo.yespapers import yes_paper, yes_right
from expressions import breaks, random_rule
from helpers import odd_values, refusal
from made_programs import EXAMPLE, EXAMPLE_A, LARGE, MANY_STATES, Walks, bounds_at, lively_program, met_words, plays_of, pair_words_of
from made_tables import NONE, bad_tables, doubled, random_table, slow_least, turned

NEW_A = ("new", "a")
U = ("do", "u", "a")
STAR = ("star", ("any",))
NEW = table(("then", STAR, "y.new"))
LOOPED = (NEW_A, ("loop", (("new", "b"), U)))
LETTERS = ("e.putp", "y.putp", "e.end", "e.u", "y.u", "y.end", "y.takep", "y.new")

# For each kind of argument good values, and wrong ones with the errors that tell so.
GOOD = {
    "program": [EXAMPLE, EXAMPLE_A, ()], "table": [NEW, NONE], "rule": ["y.new", ("star", ("any",))], "choices": [()],
    "code": [compiled(EXAMPLE), (("stop",),)], "word": [("y.new", "e.u"), ()], "join": ["and", "or", "less"],
}
WRONG = {
    "program": [
        (None, "BadProgram", ()), ((NEW_A, ("loop", (3,))), "BadProgram", (1, 0)), ((NEW_A,) * 41, "TooMany", 41),
        ((("loop", (("loop", (("loop", (("loop", (("loop", (("loop", ()),)),)),)),)),)),), "TooMany", 7),
    ],
    "table": bad_tables(),
    "rule": [(None, "BadRule", 0), (("star",) * 2, "BadRule", 0), (("then", ("any",)), "BadRule", 0)],
    "choices": [((0,) * 3001, "TooMany", 3001), ((7,) * 4000, "TooMany", 4000)],
    "code": [((), "BadCode", 0), ((U,), "BadCode", 1), ((("loop", True), ("stop",)), "BadCode", 0)],
    "word": [(None, "BadWord", 0), (("y.new", "e.x"), "BadWord", 1)],
    "join": [("not", "BadWord", "not"), ("", "BadWord", "")],
}
# The functions that raise errors, with the kinds of their arguments; what stands behind is good.
CALLS = [
    (places, ("program",), ()), (next_place, ("program",), ((9,),)), (play, ("program", "choices"), ()),
    (pair_word, ("program", "choices"), (-1, -1)), (table, ("rule",), ()), (least, ("table",), ()),
    (joined, ("table", "table", "join"), ()), (word_table, ("word",), ()), (apart, ("table", "table"), ()),
    (implies, ("table", "table"), ()), (implies_not, ("table", "table"), ()), (table_text, ("table",), ()),
    (steps_of, ("program",), (None,)), (reach, ("program",), ()), (least_steps, ("program", "table"), ()),
    (keeps, ("program", "table"), ()), (breaking, ("program", "table"), ()), (yes_paper, ("program", "table"), ()),
    (told_run, ("program", "table", "choices"), ()), (program_table, ("program",), ()), (tightest, ("program",), ()),
    (alike, ("program", "program"), ()), (parting, ("program", "program"), ()), (part_of, ("program", "program"), ()),
    (compiled, ("program",), ()), (run, ("code", "choices"), ()), (watch, ("code", "table", "choices"), ()),
    (told_text, ("program",), ()), (told_rule, ("rule",), ()), (made_program, ("program",), ()), (made_rule, ("rule",), ()),
]
# Each function of the interface with good arguments by their names.
BY_NAME = [
    (made_program, {"thing": EXAMPLE}), (is_program, {"thing": EXAMPLE}), (places, {"program": LOOPED}),
    (next_place, {"program": LOOPED, "place": (0,)}), (play, {"program": LOOPED, "choices": (1,)}),
    (pair_word, {"program": LOOPED, "choices": (1,), "i": 0, "j": 1}), (made_rule, {"thing": "y.new"}), (is_rule, {"thing": "y.new"}),
    (word_in, {"rule": "y.new", "word": ("y.new",)}), (table, {"rule": "y.new"}), (least, {"table_": NEW}),
    (joined, {"one": NEW, "two": NONE, "word": "less"}), (word_table, {"word": ("y.new",)}), (apart, {"one": NEW, "two": NONE}),
    (implies, {"one": NEW, "two": NONE}), (implies_not, {"one": NONE, "two": NEW}), (table_text, {"table_": NEW}),
    (table_of, {"text": table_text(NEW)}), (steps_of, {"program": LOOPED, "state": ((0,), None, None)}), (reach, {"program": LOOPED}),
    (breaks_at, {"program": LOOPED, "table_": NEW, "choices": (1,)}), (least_steps, {"program": LOOPED, "table_": NEW}),
    (keeps, {"program": LOOPED, "table_": NEW}), (breaking, {"program": LOOPED, "table_": NEW}),
    (yes_paper, {"program": LOOPED, "table_": NONE}), (yes_right, {"program": (), "table_": NEW, "paper": (((0,), None, None, 0),)}),
    (told_run, {"program": LOOPED, "table_": NEW, "choices": (1,)}), (program_table, {"program": LOOPED}), (tightest, {"program": LOOPED}),
    (alike, {"one": LOOPED, "two": EXAMPLE}), (parting, {"one": LOOPED, "two": EXAMPLE}), (part_of, {"one": LOOPED, "two": EXAMPLE}),
    (compiled, {"program": LOOPED}), (run, {"code": compiled(LOOPED), "choices": (1,)}),
    (watch, {"code": compiled(LOOPED), "table_": NEW, "choices": (1,)}), (read, {"text": told_text(LOOPED)}),
    (told_text, {"program": LOOPED}), (read_rule, {"text": "star(any)"}), (told_rule, {"rule": ("star", ("any",))}),
]


def parts_of(thing):
    """The thing and all that stands in it."""
    yield thing
    if isinstance(thing, tuple):
        for part in thing:
            yield from parts_of(part)


class TestErrors(unittest.TestCase):
    def test_of_several_wrong_arguments_the_first_one(self):
        for function, kinds, rest in CALLS:
            options = [[(good, None, None) for good in GOOD[kind][:1]] + WRONG[kind] for kind in kinds]
            for chosen in itertools.product(*options):
                wrong = [(name, what) for _, name, what in chosen if name is not None]
                if wrong:
                    self.assertEqual(refusal(function, *[value for value, _, _ in chosen], *rest), wrong[0], function.__name__)

    def test_good_arguments(self):
        for function, kinds, rest in CALLS:
            if not rest:
                for values in itertools.product(*[GOOD[kind] for kind in kinds]):
                    self.assertIn(refusal(function, *values), (None, ("Kept", 0), ("Broken", least_of(values))))

    def test_what_comes_behind_the_arguments(self):
        # Choices by how many they are come behind program and table, ahead of those that the play meets.
        for function in (play, lambda program, choices: told_run(program, NEW, choices)):
            self.assertEqual(refusal(function, EXAMPLE, (5,) * 3001), ("TooMany", 3001))
        self.assertEqual(refusal(pair_word, EXAMPLE, (0,) * 3001, -1, -1), ("TooMany", 3001))
        self.assertEqual(refusal(pair_word, EXAMPLE, (0,), -1, -1), ("BadChoices", 0))
        self.assertEqual(refusal(pair_word, EXAMPLE, (), -1, -1), ("BadThing", 0))
        self.assertEqual(refusal(pair_word, EXAMPLE, (), 0, 0), ("BadThing", 1))
        self.assertEqual(refusal(next_place, EXAMPLE, (9,)), ("BadPlace", (9,)))
        self.assertEqual(refusal(steps_of, EXAMPLE, None), ("BadPlace", None))
        self.assertEqual(refusal(steps_of, EXAMPLE, ((9,), "z", "z")), ("BadPlace", (9,)))
        self.assertEqual(refusal(steps_of, EXAMPLE, ((0,), "z", "z")), ("BadThing", 0))
        self.assertEqual(refusal(breaking, EXAMPLE, NONE), ("Kept", 0))
        self.assertEqual(refusal(yes_paper, EXAMPLE, NEW), ("Broken", 2))
        self.assertEqual(refusal(watch, (None,), None, (5,) * 3001), ("BadCode", 0))
        self.assertEqual(refusal(watch, (("stop",),), None, (5,) * 3001), ("BadTable", 0))
        self.assertEqual(refusal(watch, (("stop",),), NEW, (5,) * 3001), ("TooMany", 3001))
        self.assertEqual(refusal(watch, (("stop",),), NEW, (5,)), ("BadChoices", 0))

    def test_made_program_of_both_ahead_of_many_states(self):
        for function in (alike, parting, part_of):
            for thing, name, what in WRONG["program"]:
                self.assertEqual(refusal(function, MANY_STATES, thing), (name, what))
                self.assertEqual(refusal(function, thing, MANY_STATES), (name, what))
            self.assertEqual(refusal(function, MANY_STATES, EXAMPLE), ("TooMany", 201))
            self.assertEqual(refusal(function, EXAMPLE, MANY_STATES), ("TooMany", 201))

    def test_books(self):
        for thing, name, what in WRONG["program"]:
            self.assertEqual(refusal(Book, thing, (None,) * 9), (name, what))
        self.assertEqual(refusal(Book, EXAMPLE, (None,) * 9), ("TooMany", 9))
        for thing, name, what in WRONG["table"]:
            self.assertEqual(refusal(Book, EXAMPLE, (NEW, thing, None)), (name, what))

    def test_judges_raise_nothing(self):
        values = [thing for thing in odd_values() if not (isinstance(thing, tuple) and len(thing) > 1000)]
        for thing in values:
            for other in (thing, EXAMPLE, NEW, "y.new", ()):
                self.assertIs(is_program(thing), refusal(made_program, thing) is None)
                self.assertIs(is_rule(thing), refusal(made_rule, thing) is None)
                self.assertIs(word_in(thing, other), False)
                self.assertIs(yes_right(thing, other, other), False)
                self.assertIs(yes_right(other, thing, thing), False)
                self.assertIsNone(breaks_at(thing, other, other))

    def test_errors_are_made_alike(self):
        for name, one in vars(errors).items():
            if inspect.isclass(one):
                self.assertEqual(one("it").what, "it")
                self.assertEqual(one(what=("it",)).what, ("it",))
                self.assertEqual(one.__bases__, (ValueError,) if name == "Refused" else (errors.Refused,))


def least_of(values):
    """What yes_paper tells of a program and a table, if these are the values."""
    if len(values) == 2 and is_program(values[0]) and values[1] in (NEW, NONE):
        return least_steps(*values)
    return None


class TestArguments(unittest.TestCase):
    def test_by_name_and_by_position(self):
        for function, named in BY_NAME:
            expected = function(**named)
            self.assertEqual(list(inspect.signature(function).parameters), list(named), function.__name__)
            self.assertEqual(function(*named.values()), expected)
            self.assertEqual(function(**dict(reversed(list(named.items())))), expected)

    def test_no_lists_are_returned(self):
        for function, named in BY_NAME:
            for part in parts_of(function(**named)):
                self.assertIn(part.__class__, (tuple, str, int, bool, type(None)), function.__name__)
        book = Book(LOOPED, (NEW,))
        for thing in (book.program(), book.verdicts(), book.grown()):
            for part in parts_of(thing):
                self.assertIn(part.__class__, (tuple, str, int, bool))

    def test_methods_of_books(self):
        for name, arguments in (
            ("put", ["place", "statement"]), ("strike", ["place"]), ("loop_over", ["place", "many"]), ("either_of", ["place", "statements"]),
            ("flip", ["place"]), ("undo", []), ("redo", []), ("program", []), ("verdicts", []), ("grown", []),
        ):
            self.assertIn(name, vars(Book))
            self.assertEqual(list(inspect.signature(vars(Book)[name]).parameters), ["self"] + arguments)
        self.assertEqual(list(inspect.signature(Book).parameters), ["program", "tables"])


class TestWhatHolds(unittest.TestCase):
    def test_plays_beside_walks(self):
        # (a): the words of plays are rows that the walker reads; and each row is the word of a pair in some play.
        source = random.Random(151)
        many = 0
        for _ in range(30):
            program = lively_program(source, source.randint(2, 9), 3, ("a", "b", "c"))
            walks = Walks(program)
            words = program_table(program)
            for _, (events, *_) in plays_of(program, 4):
                for word in pair_words_of(events):
                    self.assertTrue(walks.reads(word) and breaks(words, word))
            rows = [row for row in walks.rows(5) if "y.new" in row]
            for row in source.sample(rows, min(6, len(rows))):
                choices, i, j = breaking(program, word_table(row))
                self.assertEqual(pair_word(program, choices, i, j)[:len(row)], row)
                many += 1
        self.assertGreater(many, 100)

    def test_papers_for_yes_beside_breaking(self):
        # (b): a program has a paper for yes, or choices that break the table, and never both.
        source = random.Random(152)
        answers = []
        for _ in range(60):
            program = lively_program(source, source.randint(2, 10), 3)
            told = source.choice((
                random_table(source, source.randint(1, 5), 0.2), table(random_rule(source, 9, LETTERS)), tightest(program),
            ))
            answers.append(keeps(program, told))
            if answers[-1]:
                paper = yes_paper(program, told)
                self.assertTrue(yes_right(program, told, paper))
                self.assertEqual(refusal(breaking, program, told), ("Kept", 0))
                self.assertTrue(implies(tightest(program), told))
                for choices, _ in plays_of(program, 4):
                    self.assertIsNone(breaks_at(program, told, choices))
                    self.assertIsNone(watch(compiled(program), told, choices))
            else:
                step = least_steps(program, told)
                choices, i, j = breaking(program, told)
                self.assertEqual(breaks_at(program, told, choices), (step, i, j))
                self.assertEqual(watch(compiled(program), told, choices)[:3], (step, i, j))
                self.assertEqual(refusal(yes_paper, program, told), ("Broken", step))
                self.assertFalse(implies(tightest(program), told))
                rows = told_run(program, told, choices).split("\n")
                self.assertEqual(rows[-1].split(":")[0], str(step))
                # No paper that has all that a right one must have is right.
                states = [(*state, s) for state in reach(program) for s in range(len(told[1])) if not (state[2] and told[1][s])]
                self.assertFalse(yes_right(program, told, tuple(states)))
        self.assertGreater(answers.count(True), 10)
        self.assertGreater(answers.count(False), 10)

    def test_least_tables_of_the_same_words(self):
        # (c): by rules and by tables, by other states, by programs.
        source = random.Random(153)
        for _ in range(40):
            one, two = [random_rule(source, source.randint(1, 8), LETTERS) for _ in range(2)]
            tables = (table(one), table(two))
            self.assertEqual(joined(*tables, "or"), table(("or", one, two)))
            self.assertEqual(joined(*tables, "and"), table(("and", one, two)))
            self.assertEqual(joined(*tables, "less"), table(("and", one, ("not", two))))
            for told in tables:
                self.assertEqual(least(turned(source, doubled(source, told))), told)
                self.assertEqual(table_of(table_text(told)), told)
                self.assertEqual(slow_least(told), told)
            self.assertEqual(apart(*tables) is None, tables[0] == tables[1])
        for _ in range(20):
            program = lively_program(source, source.randint(2, 9), 3)
            words = met_words(source, program, 8)
            for word in source.sample(words, min(3, len(words))):
                told = program_table(program)
                self.assertEqual(joined(told, word_table(word), "or"), told)
                self.assertEqual(joined(told, word_table(word), "and"), word_table(word))
                without = joined(told, word_table(word), "less")
                self.assertEqual(apart(told, without), word)
                self.assertEqual(joined(without, word_table(word), "or"), told)

    def test_compiled_code_beside_plays(self):
        # (d)
        source = random.Random(154)
        for program in [LARGE, EXAMPLE_A] + [lively_program(source, source.randint(2, 25), 5, ("a", "b", "c", "d")) for _ in range(40)]:
            code = compiled(program)
            choices = ()
            told = play(program, choices)
            while len(choices) < 25 and bounds_at(program, told) is not None:
                self.assertEqual(run(code, choices), told[:2] + told[3:])
                self.assertEqual(refusal(run, code, choices + (-1,)), refusal(play, program, choices + (-1,)))
                choices += (source.randint(0, bounds_at(program, told)),)
                told = play(program, choices)
            self.assertEqual(refusal(run, code, choices + (9999,)), refusal(play, program, choices + (9999,)))

    def test_texts_there_and_back(self):
        # (e)
        source = random.Random(155)
        for _ in range(60):
            program = lively_program(source, source.randint(0, 30), 6, ("a", "b", "c", "d"))
            if is_program(program):
                self.assertEqual(read(told_text(program)), program)
                self.assertEqual(told_text(read(told_text(program))), told_text(program))
            rule = random_rule(source, source.randint(1, 24), LETTERS)
            self.assertEqual(read_rule(told_rule(rule)), rule)
            self.assertEqual(told_rule(read_rule(told_rule(rule))), told_rule(rule))
            text = table_text(random_table(source, source.randint(1, 30), 0.4))
            self.assertEqual(table_text(table_of(text)), text)


if __name__ == "__main__":
    unittest.main()
