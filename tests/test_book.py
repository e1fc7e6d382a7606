import random
import time
import unittest

from anytwo.alikes import part_of
from anytwo.book import Book
from anytwo.errors import Refused
from anytwo.places import places
from anytwo.programs import is_program, made_program
from anytwo.programtables import tightest
from anytwo.tables import table
from anytwo.verdicts import keeps, least_steps
from helpers import deep, odd_values, refusal
from made_programs import EXAMPLE, EXAMPLE_A, LARGE, lively_program, random_program, random_statement, statement_at
from made_tables import NONE, bad_tables, random_table

NEW_A = ("new", "a")
NEW_B = ("new", "b")
PUT = ("put", "a", "p")
U = ("do", "u", "a")
V = ("do", "v", "a")
W = ("do", "w", "a")
STAR = ("star", ("any",))
NEW = table(("then", STAR, "y.new"))
YOUNGER_ENDS = table(("then", STAR, "y.end"))
# A loop at (1,) with an either at (1, 1), whose second body has a loop at (1, 1, 1, 0); an either of empty bodies at (2,).
NESTED = (NEW_A, ("loop", (U, ("either", (V, W), (("loop", (V,)),)))), ("either", (), ()))
ENDS = ((3,), (1, 2), (1, 1, 0, 2), (1, 1, 1, 1), (1, 1, 1, 0, 1), (2, 0, 0), (2, 1, 0))
NO_PLACES = (
    (), (4,), (-1,), (0, 0), (1, 3), (1, -1), (1, 1, 0), (1, 1, 2, 0), (1, 1, -1, 0), (1, 1, 0, 3), (1, 1, 1, 2), (1, 1, 1, 0, 2),
    (2, 0), (2, 2, 0), (2, 0, 1), (3, 0), (3, 0, 0), (True,), (False,), (1, True), (1, False), (1, True, 0, 0), (1, 1, False, 0),
    (1, 1, True, 0, 0), (2, False, 0), (0, 0, 0), (10 ** 5000,), (-10 ** 5000,), (None,), ("0",), ((0,),), ("a", 0), (0, None),
    None, True, False, 0, 1, "", "0", "new", ((), ()), deep(99), deep(99, "a"), (1, (1,)),
)
DEEDS = ("put", "strike", "loop_over", "either_of", "flip")


def unfolded(body):
    """The same of lists, which can be changed."""
    return [[part if isinstance(part, str) else unfolded(part) for part in one] for one in body]


def folded(body):
    return tuple(tuple(part if isinstance(part, str) else folded(part) for part in one) for one in body)


def list_at(rows, place):
    """The list in which the place is, by going from statement to statement."""
    rest = list(place)
    while len(rest) > 1:
        statement = rows[rest.pop(0)]
        rows = statement[1 + rest.pop(0)] if statement[0] == "either" else statement[1]
    return rows


def changed(program, deed, place, more):
    """What becomes of a program by a deed that is let."""
    rows = unfolded(program)
    body = list_at(rows, place)
    at = place[-1]
    if deed == "put":
        body.insert(at, unfolded((more,))[0])
    elif deed == "strike":
        del body[at]
    elif deed == "loop_over":
        body[at:at + more] = [["loop", body[at:at + more]]]
    elif deed == "either_of":
        body[at] = ["either", [body[at]], unfolded(more)]
    else:
        body[at][1], body[at][2] = body[at][2], body[at][1]
    return folded(rows)


def all_places(program):
    """All places of statements, and all ends of bodies."""
    found = list(places(program))
    ends = [found.pop()]
    for place in found:
        statement = statement_at(program, place)
        if statement[0] == "loop":
            ends.append(place + (len(statement[1]),))
        elif statement[0] == "either":
            ends += [place + (which, len(statement[1 + which])) for which in (0, 1)]
    return (found, ends)


class BookCase(unittest.TestCase):
    def done(self, book, deed, *args):
        """Do a deed; it stands, and the program is what it must be."""
        before = book.program()
        self.assertIsNone(getattr(book, deed)(*args))
        expected = changed(before, deed, args[0], args[1] if len(args) > 1 else None)
        self.assertEqual(book.program(), expected)
        self.assertIs(book.grown(), part_of(before, expected))
        return expected

    def refused(self, book, deed, args, name, what):
        """The deed is refused, and nothing has changed."""
        before = (book.program(), book.grown(), book.verdicts())
        self.assertEqual(refusal(getattr(book, deed), *args), (name, what))
        self.assertEqual((book.program(), book.grown(), book.verdicts()), before)


class TestDeeds(BookCase):
    def test_by_name(self):
        book = Book(program=EXAMPLE, tables=())
        book.put(place=(0,), statement=U)
        book.strike(place=(0,))
        book.loop_over(place=(0,), many=1)
        book.either_of(place=(0,), statements=(U,))
        book.flip(place=(0,))
        self.assertEqual(book.program()[0], ("either", (U,), (("loop", (NEW_A,)),)))

    def test_the_beginning(self):
        book = Book(EXAMPLE, (NEW, NONE))
        self.assertEqual(book.program(), EXAMPLE)
        self.assertIs(book.grown(), True)
        self.assertEqual(book.verdicts(), (2, True))
        self.assertEqual(refusal(book.undo), ("NothingToUndo", 0))
        self.assertEqual(refusal(book.redo), ("NothingToRedo", 0))

    def test_put(self):
        for place, program in (
            ((0,), (W,) + NESTED), ((3,), NESTED + (W,)), ((2,), NESTED[:2] + (W,) + NESTED[2:]),
            ((1, 0), (NEW_A, ("loop", (W,) + NESTED[1][1]), NESTED[2])), ((1, 2), (NEW_A, ("loop", NESTED[1][1] + (W,)), NESTED[2])),
            ((2, 0, 0), NESTED[:2] + (("either", (W,), ()),)), ((2, 1, 0), NESTED[:2] + (("either", (), (W,)),)),
            ((1, 1, 1, 0, 1), (NEW_A, ("loop", (U, ("either", (V, W), (("loop", (V, W)),)))), ("either", (), ()))),
        ):
            book = Book(NESTED, ())
            self.assertEqual(self.done(book, "put", place, W), program)
        book = Book((), ())
        self.assertEqual(self.done(book, "put", (0,), ("loop", ())), (("loop", ()),))
        self.assertEqual(self.done(book, "put", (0, 0), ("either", (U,), ())), (("loop", (("either", (U,), ()),)),))
        self.assertEqual(self.done(book, "put", (1,), V), (("loop", (("either", (U,), ()),)), V))

    def test_strike(self):
        for place, program in (
            ((0,), NESTED[1:]), ((1,), (NEW_A, NESTED[2])), ((2,), NESTED[:2]), ((1, 0), (NEW_A, ("loop", NESTED[1][1][1:]), NESTED[2])),
            ((1, 1), (NEW_A, ("loop", (U,)), NESTED[2])), ((1, 1, 1, 0), (NEW_A, ("loop", (U, ("either", (V, W), ()))), NESTED[2])),
        ):
            book = Book(NESTED, ())
            self.assertEqual(self.done(book, "strike", place), program)
        book = Book((U,), ())
        self.assertEqual(self.done(book, "strike", (0,)), ())

    def test_loop_over(self):
        book = Book(EXAMPLE, ())
        self.assertEqual(self.done(book, "loop_over", (1,), 2), (NEW_A, ("loop", (NEW_B, U)), ("end", "b")))
        self.assertEqual(self.done(book, "loop_over", (1, 1), 1), (NEW_A, ("loop", (NEW_B, ("loop", (U,)))), ("end", "b")))
        self.assertEqual(
            self.done(book, "loop_over", (0,), 3), (("loop", (NEW_A, ("loop", (NEW_B, ("loop", (U,)))), ("end", "b"))),)
        )
        for place, many in (((0,), 3), ((1,), 2), ((2,), 1), ((1, 0), 2), ((1, 1), 1), ((1, 1, 0, 0), 2), ((1, 1, 0, 1), 1), ((1, 1, 1, 0), 1)):
            for fewer in range(1, many + 1):
                self.done(Book(NESTED, ()), "loop_over", place, fewer)
            self.refused(Book(NESTED, ()), "loop_over", (place, many + 1), "BadPlace", (place, many + 1))

    def test_either_of(self):
        for statements in ((), (U,), (U, V, NEW_B), (("loop", (U,)), ("either", (), (V,)))):
            for place in places(NESTED)[:-1]:
                program = self.done(Book(NESTED, ()), "either_of", place, statements)
                self.assertEqual(statement_at(program, place), ("either", (statement_at(NESTED, place),), statements))

    def test_flip(self):
        book = Book(NESTED, ())
        self.assertEqual(
            self.done(book, "flip", (1, 1)), (NEW_A, ("loop", (U, ("either", (("loop", (V,)),), (V, W)))), ("either", (), ()))
        )
        self.assertEqual(self.done(book, "flip", (1, 1)), NESTED)
        self.assertEqual(self.done(book, "flip", (2,)), NESTED)
        self.assertIsNone(book.undo())
        self.assertIsNone(book.undo())
        self.assertIsNone(book.undo())
        self.assertEqual(refusal(book.undo), ("NothingToUndo", 0))

    def test_everywhere(self):
        source = random.Random(141)
        for _ in range(25):
            program = lively_program(source, source.randint(2, 12), 4)
            found, ends = all_places(program)
            for place in found + ends:
                self.done(Book(program, ()), "put", place, random_statement(source, ("a", "b"), ("p",)))
            for place in found:
                self.done(Book(program, ()), "strike", place)
                rest = len(list_at(unfolded(program), place)) - place[-1]
                self.done(Book(program, ()), "loop_over", place, source.randint(1, rest))
                self.done(Book(program, ()), "either_of", place, random_program(source, source.randint(0, 3), 2))
                if statement_at(program, place)[0] == "either":
                    self.done(Book(program, ()), "flip", place)
                else:
                    self.refused(Book(program, ()), "flip", (place,), "BadPlace", place)
            for place in ends:
                for deed, more in (("strike", ()), ("either_of", ((),)), ("flip", ())):
                    self.refused(Book(program, ()), deed, (place, *more), "BadPlace", place)
                for many in (0, 1, -1):
                    self.refused(Book(program, ()), "loop_over", (place, many), "BadPlace", (place, many))


class TestRefusedDeeds(BookCase):
    def test_no_places(self):
        book = Book(NESTED, (NEW,))
        for thing in NO_PLACES:
            # The place comes ahead of what the program would be.
            for statement in (U, None, ("loop", deep(60))):
                self.refused(book, "put", (thing, statement), "BadPlace", thing)
            self.refused(book, "strike", (thing,), "BadPlace", thing)
            self.refused(book, "flip", (thing,), "BadPlace", thing)
            for statements in ((), (U,), None, (None,)):
                self.refused(book, "either_of", (thing, statements), "BadPlace", thing)
            for many in (-1, 0, 1, 2, 50):
                self.refused(book, "loop_over", (thing, many), "BadPlace", (thing, many))
        for thing in odd_values():
            if thing not in ((0,),):
                self.assertEqual(refusal(book.strike, thing), ("BadPlace", thing))
                self.assertEqual(refusal(book.put, thing, U), ("BadPlace", thing))

    def test_ends_of_bodies(self):
        for place in ENDS:
            book = Book(NESTED, ())
            self.done(book, "put", place, U)
            book = Book(NESTED, ())
            self.refused(book, "strike", (place,), "BadPlace", place)
            self.refused(book, "either_of", (place, ()), "BadPlace", place)
            self.refused(book, "flip", (place,), "BadPlace", place)
            self.refused(book, "loop_over", (place, 1), "BadPlace", (place, 1))
            self.refused(book, "loop_over", (place, 0), "BadPlace", (place, 0))

    def test_how_many_of_loop_over(self):
        book = Book(NESTED, ())
        for place, most in (((0,), 3), ((1, 0), 2), ((1, 1, 1, 0), 1)):
            for many in (0, -1, -10 ** 5000, most + 1, most + 2, 100, 10 ** 5000):
                self.refused(book, "loop_over", (place, many), "BadPlace", (place, many))

    def test_flips_of_others(self):
        book = Book(NESTED, ())
        for place in ((0,), (1,), (1, 0), (1, 1, 0, 0), (1, 1, 1, 0), (1, 1, 1, 0, 0)):
            self.refused(book, "flip", (place,), "BadPlace", place)

    def test_bad_statements(self):
        book = Book(NESTED, (NEW,))
        for thing in odd_values():
            either = ("either", (V, thing, W), NESTED[1][1][1][2])
            told = refusal(made_program, (NEW_A, ("loop", (U, either)), NESTED[2]))
            self.refused(book, "put", ((1, 1, 0, 1), thing), *told)
            self.assertEqual(told[1][:4], (1, 1, 0, 1))
            if not is_program(thing):
                told = refusal(made_program, (NEW_A, ("loop", (("either", (U,), thing), NESTED[1][1][1])), NESTED[2]))
                self.refused(book, "either_of", ((1, 0), thing), *told)
        self.refused(book, "put", ((3,), ("loop", (U, ("new", "e")))), "BadProgram", (3, 1))
        self.refused(book, "put", ((0,), ("either", (U,), (("new", "e"),))), "BadProgram", (0, 1, 0))
        self.refused(book, "put", ((0,), ("either", (U,))), "BadProgram", (0,))
        self.refused(book, "either_of", ((1, 0), (U, ("new", "e"))), "BadProgram", (1, 0, 1, 1))
        self.refused(book, "either_of", ((0,), U), "BadProgram", (0, 1, 0))

    def test_too_many_statements(self):
        program = (U,) * 38 + (("loop", (V,)),)
        book = Book(program, ())
        self.refused(book, "put", ((0,), U), "TooMany", 41)
        self.refused(book, "put", ((38, 1), U), "TooMany", 41)
        self.refused(book, "loop_over", ((0,), 39), "TooMany", 41)
        self.refused(book, "either_of", ((0,), ()), "TooMany", 41)
        # What comes first in the program that would come is told; a bad statement behind the 41st one is not come to.
        self.refused(book, "put", ((39,), None), "TooMany", 41)
        self.refused(book, "put", ((38,), None), "BadProgram", (38,))
        self.done(book, "strike", (38, 0))
        self.done(book, "either_of", (0,), ())
        self.refused(book, "put", ((0,), ("loop", ())), "TooMany", 41)

    def test_too_deep(self):
        program = (U,)
        for _ in range(5):
            program = (("loop", program),)
        book = Book(program, ())
        place = (0,) * 6
        self.refused(book, "loop_over", (place, 1), "TooMany", 7)
        self.refused(book, "loop_over", ((0,), 1), "TooMany", 7)
        self.refused(book, "either_of", ((0, 0), ()), "TooMany", 7)
        self.refused(book, "put", (place, ("loop", ())), "TooMany", 7)
        self.refused(book, "put", (place, ("either", (), ())), "TooMany", 7)
        self.done(book, "put", place, V)
        self.done(book, "put", (0,) * 5, ("loop", (W,)))

    def test_a_hundred_deeds(self):
        book = Book((("either", (U,), (V,)),), (NEW,))
        for _ in range(100):
            self.assertIsNone(book.flip((0,)))
        for deed, args in (
            ("flip", ((0,),)), ("put", ((0,), U)), ("strike", ((0,),)), ("loop_over", ((0,), 1)), ("either_of", ((0,), ())),
        ):
            self.refused(book, deed, args, "TooMany", 101)
        # The place, and the program that would come, are asked ahead.
        self.refused(book, "put", ((2,), U), "BadPlace", (2,))
        self.refused(book, "flip", ((1,),), "BadPlace", (1,))
        self.refused(book, "loop_over", ((0,), 2), "BadPlace", ((0,), 2))
        self.refused(book, "put", ((0,), None), "BadProgram", (0,))
        self.refused(book, "either_of", ((0,), (U, V, 3)), "BadProgram", (0, 1, 2))
        self.refused(book, "either_of", ((0,), (U,) * 40), "TooMany", 41)
        # Undo makes room, and a redo fills it.
        book.undo()
        book.redo()
        self.refused(book, "flip", ((0,),), "TooMany", 101)
        book.undo()
        self.assertIsNone(book.put((0,), U))
        self.refused(book, "flip", ((1,),), "TooMany", 101)
        self.assertEqual(refusal(book.redo), ("NothingToRedo", 0))
        for _ in range(100):
            self.assertIsNone(book.undo())
        self.assertEqual(refusal(book.undo), ("NothingToUndo", 0))
        for _ in range(100):
            self.assertIsNone(book.redo())
        self.assertEqual(refusal(book.redo), ("NothingToRedo", 0))
        self.assertEqual(book.program()[0], U)
        self.refused(book, "flip", ((1,),), "TooMany", 101)

    def test_refused_deeds_leave_what_there_is_to_redo(self):
        book = Book(EXAMPLE, ())
        book.strike((0,))
        book.strike((0,))
        book.undo()
        for deed, args in (("strike", ((9,),)), ("put", ((0,), None)), ("loop_over", ((0,), 9)), ("flip", ((0,),)), ("either_of", ((7,), ()))):
            self.assertIsNotNone(refusal(getattr(book, deed), *args))
        self.assertIsNone(book.redo())
        self.assertEqual(book.program(), EXAMPLE[2:])
        self.assertEqual(refusal(book.redo), ("NothingToRedo", 0))
        self.assertEqual(book.program(), EXAMPLE[2:])


class TestUndoAndRedo(BookCase):
    def test_to_the_beginning_and_back(self):
        source = random.Random(142)
        for _ in range(20):
            program = lively_program(source, source.randint(2, 10), 3)
            book = Book(program, (NEW, YOUNGER_ENDS))
            stages = [program]
            for _ in range(12):
                if drawn_deed(source, book):
                    stages.append(book.program())
            for _ in range(3):
                for before, after in reversed(list(zip(stages, stages[1:]))):
                    self.assertEqual(book.program(), after)
                    self.assertIsNone(book.undo())
                    self.assertEqual(book.program(), before)
                    self.assertIs(book.grown(), part_of(after, before))
                self.assertEqual(refusal(book.undo), ("NothingToUndo", 0))
                self.assertEqual(book.program(), program)
                for before, after in zip(stages, stages[1:]):
                    self.assertIsNone(book.redo())
                    self.assertEqual(book.program(), after)
                    self.assertIs(book.grown(), part_of(before, after))
                    self.assertEqual(book.verdicts(), tuple(least_steps(after, told) or True for told in (NEW, YOUNGER_ENDS)))
                self.assertEqual(refusal(book.redo), ("NothingToRedo", 0))

    def test_a_deed_leaves_nothing_to_redo(self):
        book = Book(EXAMPLE, ())
        for _ in range(3):
            book.strike((0,))
        book.undo()
        book.undo()
        book.put((0,), W)
        self.assertEqual(refusal(book.redo), ("NothingToRedo", 0))
        self.assertEqual(book.program(), (W,) + EXAMPLE[1:])
        book.undo()
        self.assertEqual(book.program(), EXAMPLE[1:])
        book.redo()
        self.assertEqual(book.program(), (W,) + EXAMPLE[1:])
        book.undo()
        book.undo()
        self.assertEqual(book.program(), EXAMPLE)
        self.assertEqual(refusal(book.undo), ("NothingToUndo", 0))

    def test_a_slow_book(self):
        source = random.Random(143)
        deeds = 0
        for _ in range(15):
            program = lively_program(source, source.randint(2, 8), 3)
            book = Book(program, ())
            before, after, last = [], [], None
            now = program
            for _ in range(40):
                kind = source.randrange(5)
                if kind == 0:
                    expected = ("NothingToUndo", 0) if not before else None
                    self.assertEqual(refusal(book.undo), expected)
                    if expected is None:
                        after.append(now)
                        last, now = now, before.pop()
                elif kind == 1:
                    expected = ("NothingToRedo", 0) if not after else None
                    self.assertEqual(refusal(book.redo), expected)
                    if expected is None:
                        before.append(now)
                        last, now = now, after.pop()
                elif drawn_deed(source, book):
                    before.append(now)
                    after = []
                    last, now = now, book.program()
                    deeds += 1
                self.assertEqual(book.program(), now)
                self.assertIs(book.grown(), True if last is None else part_of(last, now))
        self.assertGreater(deeds, 100)


def drawn_deed(source, book):
    """Do some deed or let it be refused; whether it stands."""
    found, ends = all_places(book.program())
    deed = source.choice(DEEDS)
    place = source.choice(found + ends)
    more = {
        "put": (random_statement(source, ("a", "b"), ("p",)),), "loop_over": (source.randint(0, 4),),
        "either_of": (random_program(source, source.randint(0, 3), 2),),
    }.get(deed, ())
    before = book.program()
    try:
        getattr(book, deed)(place, *more)
    except Refused:
        assert book.program() == before
        return False
    assert book.program() == changed(before, deed, place, more[0] if more else None)
    return True


class TestVerdicts(BookCase):
    def test_behind_each_change(self):
        book = Book((NEW_A,), (NEW, YOUNGER_ENDS, NONE, NEW))
        self.assertEqual(book.verdicts(), (True, True, True, True))
        book.put((1,), NEW_B)
        self.assertEqual(book.verdicts(), (2, True, True, 2))
        book.put((2,), ("end", "b"))
        self.assertEqual(book.verdicts(), (2, 3, True, 2))
        book.put((0,), U)
        self.assertEqual(book.verdicts(), (3, 4, True, 3))
        book.undo()
        self.assertEqual(book.verdicts(), (2, 3, True, 2))
        book.undo()
        book.undo()
        self.assertEqual(book.verdicts(), (True, True, True, True))
        book.redo()
        self.assertEqual(book.verdicts(), (2, True, True, 2))
        self.assertEqual([one.__class__ for one in book.verdicts()], [int, bool, bool, int])

    def test_without_tables(self):
        book = Book(EXAMPLE, ())
        self.assertEqual(book.verdicts(), ())
        book.strike((0,))
        self.assertEqual(book.verdicts(), ())

    def test_beside_the_verdicts_of_programs(self):
        source = random.Random(144)
        answers = []
        for _ in range(15):
            program = lively_program(source, source.randint(2, 10), 3)
            tables = tuple(random_table(source, source.randint(1, 5), 0.2) for _ in range(7)) + (tightest(program),)
            book = Book(program, tables)
            for _ in range(6):
                drawn_deed(source, book)
                got = book.verdicts()
                self.assertEqual([one is True for one in got], [keeps(book.program(), told) for told in tables])
                self.assertEqual([None if one is True else one for one in got], [least_steps(book.program(), told) for told in tables])
                answers += got
        self.assertIn(True, answers)
        self.assertGreater(len(set(answers)), 4)

    def test_what_was_told_does_not_change(self):
        book = Book(EXAMPLE, (NEW,))
        program, told = book.program(), book.verdicts()
        book.strike((0,))
        book.strike((0,))
        self.assertEqual((program, told), (EXAMPLE, (2,)))

    def test_it_takes_no_time(self):
        source = random.Random(145)
        orders = [source.sample(range(200), 200) for _ in range(17)]
        mixed = (tuple(tuple(order[state] for order in orders) for state in range(200)), (False,) * 200)
        begun = time.monotonic()
        book = Book(LARGE, (mixed,) * 8)
        self.assertEqual(book.verdicts(), (True,) * 8)
        book.strike((0, 0))
        book.grown()
        self.assertLess(time.monotonic() - begun, 20)


class TestGrown(BookCase):
    def test_behind_each_change(self):
        book = Book((NEW_A, NEW_B), ())
        self.assertIs(book.grown(), True)
        book.put((2,), U)
        self.assertIs(book.grown(), True)
        book.undo()
        self.assertIs(book.grown(), False)
        book.redo()
        self.assertIs(book.grown(), True)
        book.put((0,), U)
        self.assertIs(book.grown(), True)
        book.strike((1,))
        self.assertIs(book.grown(), False)
        book.undo()
        self.assertIs(book.grown(), True)
        # It is the last change that counts, not the last deed.
        book.undo()
        self.assertIs(book.grown(), True)
        self.assertEqual(refusal(book.strike, (9,)), ("BadPlace", (9,)))
        self.assertIs(book.grown(), True)

    def test_a_word_for_another_one(self):
        book = Book((NEW_A, NEW_B, U), ())
        book.either_of((2,), (V,))
        self.assertIs(book.grown(), True)
        book.flip((2,))
        self.assertIs(book.grown(), True)
        book.strike((2, 1, 0))
        self.assertIs(book.grown(), False)
        book.put((2, 0, 0), W)
        self.assertIs(book.grown(), False)

    def test_deeds_that_take_no_words_away(self):
        source = random.Random(146)
        many = 0
        for _ in range(60):
            program = lively_program(source, source.randint(2, 12), 4, ("a", "b", "c"))
            book = Book(program, ())
            for _ in range(10):
                deed = source.choice(("loop_over", "either_of", "flip"))
                place = source.choice(places(book.program()))
                more = {"loop_over": (source.randint(1, 3),), "either_of": (random_program(source, source.randint(0, 3), 2),)}.get(deed, ())
                if refusal(getattr(book, deed), place, *more) is None:
                    self.assertIs(book.grown(), True)
                    many += 1
        self.assertGreater(many, 150)

    def test_puts_and_strikes(self):
        source = random.Random(147)
        answers = []
        for _ in range(40):
            book = Book(lively_program(source, source.randint(3, 9), 3), ())
            for _ in range(4):
                before = book.program()
                drawn_deed(source, book)
                if book.program() != before:
                    self.assertIs(book.grown(), part_of(before, book.program()))
                    answers.append(book.grown())
        self.assertGreater(answers.count(False), 15)
        self.assertGreater(answers.count(True), 15)


class TestNewBooks(unittest.TestCase):
    def test_errors_in_their_order(self):
        for thing in odd_values():
            if not is_program(thing):
                told = refusal(made_program, thing)
                self.assertEqual(refusal(Book, thing, ()), told)
                self.assertEqual(refusal(Book, thing, (None,) * 9), told)
                self.assertEqual(refusal(Book, EXAMPLE, (NEW, thing)), ("BadTable", 0))
        self.assertEqual(refusal(Book, (NEW_A,) * 41, (None,)), ("TooMany", 41))
        self.assertEqual(refusal(Book, EXAMPLE, (NEW,) * 9), ("TooMany", 9))
        self.assertEqual(refusal(Book, EXAMPLE, (None,) * 9), ("TooMany", 9))
        self.assertEqual(refusal(Book, EXAMPLE, (None,) * 500), ("TooMany", 500))
        self.assertEqual(Book(EXAMPLE, (NEW,) * 8).verdicts(), (2,) * 8)
        for thing, name, what in bad_tables():
            for many in range(8):
                self.assertEqual(refusal(Book, EXAMPLE, (NEW,) * many + (thing,)), (name, what))
            self.assertEqual(refusal(Book, EXAMPLE, (thing, None)), (name, what))
        self.assertEqual(refusal(Book, EXAMPLE, (NEW, (((0,) * 17,) * 201, (True,) * 201), None)), ("TooMany", 201))

    def test_two_books(self):
        one, two = Book(EXAMPLE, (NEW,)), Book(EXAMPLE, (NEW,))
        one.strike((0,))
        self.assertEqual(two.program(), EXAMPLE)
        self.assertEqual(refusal(two.undo), ("NothingToUndo", 0))
        self.assertEqual(one.verdicts() + two.verdicts(), (True, 2))

    def test_example_a(self):
        book = Book(EXAMPLE_A, (YOUNGER_ENDS,))
        self.assertEqual(book.verdicts(), (9,))
        book.put((0, 3), ("put", "b", "q"))
        self.assertEqual(book.verdicts(), (True,))


if __name__ == "__main__":
    unittest.main()
