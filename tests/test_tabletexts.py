import random
import unittest

from anytwo.tables import least, table
from anytwo.tabletexts import table_of, table_text
from helpers import odd_values, refusal
from made_tables import NONE, bad_tables, random_table, ring

ZEROS = " ".join(["0"] * 17)


def with_word(index, word, many=1):
    """A text of so many rows, of which the first one has this word at the index."""
    words = ["0"] * 17
    words[index] = word
    return "\n".join([" ".join(words)] + [ZEROS] * (many - 1))


class TestTableText(unittest.TestCase):
    def test_by_name(self):
        self.assertEqual(table_text(table_=NONE), ZEROS)
        self.assertEqual(table_of(text=ZEROS), NONE)

    def test_examples(self):
        self.assertEqual(table_text((((0,) * 17,), (True,))), ZEROS + " !")
        self.assertEqual(
            table_text(table("y.new")),
            "1 1 1 1 1 1 1 1 1 1 1 1 1 1 1 1 2\n"
            "1 1 1 1 1 1 1 1 1 1 1 1 1 1 1 1 1\n"
            "1 1 1 1 1 1 1 1 1 1 1 1 1 1 1 1 1 !",
        )
        moves = tuple(tuple(range(k, k + 17)) for k in (0, 1, 2)) + ((3,) * 17,) * 16
        bad = (True, False, True) + (False,) * 15 + (True,)
        rows = table_text((moves, bad)).split("\n")
        self.assertEqual(rows[0], "0 1 2 3 4 5 6 7 8 9 10 11 12 13 14 15 16 !")
        self.assertEqual(rows[1], "1 2 3 4 5 6 7 8 9 10 11 12 13 14 15 16 17")
        self.assertEqual(rows[2], "2 3 4 5 6 7 8 9 10 11 12 13 14 15 16 17 18 !")
        self.assertEqual(len(rows), 19)

    def test_errors(self):
        for thing, name, what in bad_tables():
            self.assertEqual(refusal(table_text, thing), (name, what))
        for thing in odd_values():
            self.assertEqual(refusal(table_text, thing), ("BadTable", 0))

    def test_read_back(self):
        source = random.Random(41)
        drawn = [random_table(source, many, share) for many in (1, 2, 9, 10, 11, 60, 99, 100, 101, 199, 200)
                 for share in (0, 0.4, 1)]
        for told in drawn + [NONE, ring(200, (7,)), ring(3, (0, 1, 2)), least(ring(40, (1,)))]:
            text = table_text(told)
            self.assertEqual(table_of(text), told)
            self.assertEqual(table_text(table_of(text)), text)

    def test_three_digits(self):
        text = table_text((((199,) * 17,) * 200, (False,) * 199 + (True,)))
        self.assertEqual(text.split("\n")[198:], [" ".join(["199"] * 17), " ".join(["199"] * 17 + ["!"])])
        self.assertEqual(table_of(text), (((199,) * 17,) * 200, (False,) * 199 + (True,)))

    def test_a_table_that_is_not_least(self):
        told = (((1,) * 17, (2,) * 17, (0,) * 17), (True, True, True))
        self.assertEqual(table_of(table_text(told)), told)

    def test_kinds_of_values(self):
        moves, bad = table_of(ZEROS + " !")
        self.assertEqual((moves.__class__, bad.__class__, moves[0].__class__), (tuple, tuple, tuple))
        self.assertTrue(all(state.__class__ is int for state in moves[0]))
        self.assertIs(bad[0], True)
        self.assertIs(table_of(ZEROS)[1][0], False)


class TestTableOf(unittest.TestCase):
    def bad(self, text, row):
        self.assertEqual(refusal(table_of, text), ("BadText", row))

    def bad_row(self, row):
        """Each text in which this row stands is bad there."""
        self.bad(row, 0)
        self.bad("\n".join([row, ZEROS, ZEROS]), 0)
        self.bad("\n".join([ZEROS, ZEROS + " !", row]), 2)
        self.bad("\n".join([ZEROS, row, row, ZEROS]), 1)
        self.bad("\n".join([ZEROS] * 250 + [row]), 250)

    def test_empty(self):
        self.bad("", 0)
        self.bad("\n", 0)
        self.bad("\n\n\n", 0)
        self.bad_row("")

    def test_line_end_at_the_end(self):
        self.bad(ZEROS + "\n", 1)
        self.bad("\n" + ZEROS, 0)
        self.bad(ZEROS + "\n\n" + ZEROS, 1)
        self.bad("\n".join([ZEROS] * 200) + "\n", 200)

    def test_other_line_ends(self):
        for sign in ("\r", "\r\n", "\x0b", "\x0c", "\x1c", "\x85", "\u2028"):
            self.bad(ZEROS + sign + ZEROS, 0)
            self.bad(ZEROS + sign, 0)

    def test_too_few_and_too_many_numbers(self):
        for many in (1, 2, 15, 16, 18, 19, 34):
            row = " ".join(["0"] * many)
            self.bad_row(row)
            self.bad_row(row + " !")

    def test_leading_zeros(self):
        for word in ("00", "01", "000", "001", "010"):
            for index in (0, 8, 16):
                self.bad(with_word(index, word, 20), 0)
        self.assertEqual(table_of(with_word(16, "10", 11))[0][0], (0,) * 16 + (10,))

    def test_not_less_than_the_number_of_rows(self):
        for many in (1, 2, 9, 10, 11, 99, 100, 101, 200):
            for index in (0, 9, 16):
                self.bad(with_word(index, str(many), many), 0)
                self.bad(with_word(index, str(many + 1), many), 0)
                self.assertEqual(table_of(with_word(index, str(many - 1), many))[0][0][index], many - 1)
        self.bad(with_word(0, "999", 200), 0)

    def test_four_digits(self):
        for many in (1, 200, 1500):
            for word in ("1000", "0001", "0000", "9999", "9" * 5000):
                self.bad(with_word(3, word, many), 0)
        self.assertEqual(refusal(table_of, with_word(3, "999", 1500)), ("TooMany", 1500))

    def test_signs(self):
        for word in ("-0", "+0", "-1", "+1", "0.", "1_0", "0x", "1e1", "a", "!", "!0", "0!", "", "None", "True"):
            for index in (0, 8, 16):
                self.bad(with_word(index, word, 150), 0)

    def test_other_digits(self):
        for word in ("\u0661", "\u00b2", "\u0660", "\uff11", "1\u0661", "\u2460"):
            self.bad(with_word(5, word, 150), 0)
            self.bad_row(ZEROS + " " + word)

    def test_other_words_at_the_end(self):
        for word in ("?", "!!", "! !", "0", "0 !", "! 0", ".", "\uff01", "bad", "True"):
            self.bad_row(ZEROS + " " + word)
        self.bad_row("! " + ZEROS)
        self.bad_row("! " + " ".join(["0"] * 16))
        self.bad_row(" ".join(["0"] * 16) + " !")
        self.bad_row(ZEROS + "!")

    def test_blanks(self):
        for row in (
            ZEROS + " ", " " + ZEROS, ZEROS + " ! ", " " + ZEROS + " !", ZEROS + "  !", ZEROS.replace(" ", "  ", 1),
            ZEROS.replace(" ", "\t", 1), ZEROS.replace(" ", "\u00a0", 1), " ", "  ", " " * 16, " " * 17,
            " ".join(["0"] * 16) + " ", ZEROS.replace(" ", ""), ZEROS.replace(" ", ","),
        ):
            self.bad_row(row)

    def test_more_than_two_hundred_rows(self):
        self.assertEqual(table_of("\n".join([ZEROS] * 200)), (((0,) * 17,) * 200, (False,) * 200))
        self.assertEqual(refusal(table_of, "\n".join([ZEROS] * 201)), ("TooMany", 201))
        self.assertEqual(refusal(table_of, "\n".join([ZEROS + " !"] * 1000)), ("TooMany", 1000))
        self.bad("\n".join([ZEROS] * 201 + ["x"]), 201)
        self.bad("\n".join([ZEROS] * 100 + ["x"] + [ZEROS] * 200 + ["y"]), 100)

    def test_a_state_of_more_than_two_hundred_rows(self):
        self.bad(with_word(0, "201", 201), 0)
        self.assertEqual(refusal(table_of, with_word(0, "200", 201)), ("TooMany", 201))


if __name__ == "__main__":
    unittest.main()
