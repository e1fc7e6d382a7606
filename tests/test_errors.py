import unittest

from anytwo import errors

NAMES = (
    "BadText", "BadProgram", "BadRule", "BadWord", "BadChoices", "BadThing", "BadPlace", "BadCode",
    "BadTable", "Kept", "Broken", "TooMany", "NothingToUndo", "NothingToRedo",
)


class TestErrors(unittest.TestCase):
    def test_refused_stands_under_value_error(self):
        self.assertEqual(errors.Refused.__bases__, (ValueError,))

    def test_each_stands_straight_under_refused_alone(self):
        for name in NAMES:
            self.assertEqual(getattr(errors, name).__bases__, (errors.Refused,), name)

    def test_none_is_under_another(self):
        classes = [getattr(errors, name) for name in NAMES]
        for one in classes:
            for other in classes:
                self.assertEqual(issubclass(one, other), one is other)

    def test_each_is_defined_there_under_its_name(self):
        for name in ("Refused",) + NAMES:
            self.assertEqual(getattr(errors, name).__name__, name)
            self.assertEqual(getattr(errors, name).__module__, "anytwo.errors")

    def test_what_by_position_and_by_name(self):
        for name in ("Refused",) + NAMES:
            for thing in (0, 201, (), (1, 2), ((0,), 3), "text", None, 10 ** 5000):
                self.assertEqual(getattr(errors, name)(thing).what, thing, name)
                self.assertEqual(getattr(errors, name)(what=thing).what, thing, name)

    def test_just_one_argument(self):
        for name in ("Refused",) + NAMES:
            with self.assertRaises(TypeError):
                getattr(errors, name)()
            with self.assertRaises(TypeError):
                getattr(errors, name)(1, 2)

    def test_caught_as_refused_and_as_value_error(self):
        for name in NAMES:
            with self.assertRaises(errors.Refused) as caught:
                raise getattr(errors, name)((1, 0))
            self.assertEqual(caught.exception.what, (1, 0))
            with self.assertRaises(ValueError):
                raise getattr(errors, name)(7)


if __name__ == "__main__":
    unittest.main()
