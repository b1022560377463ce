import unittest

from waitloom import errors
from waitloom.errors import BadCode, BadCount, BadName, BadText, BadTree, LoomError, NoThing

REFUSALS = (BadTree, BadText, BadName, BadCount, BadCode, NoThing)


class ErrorsTest(unittest.TestCase):
    def test_loom_error_stands_straight_under_value_error(self):
        self.assertEqual(LoomError.__bases__, (ValueError,))

    def test_each_refusal_stands_straight_under_loom_error(self):
        for refusal in REFUSALS:
            self.assertEqual(refusal.__bases__, (LoomError,), refusal)

    def test_none_stands_under_another(self):
        for refusal in REFUSALS:
            others = [other for other in REFUSALS if other != refusal]
            self.assertFalse(any([issubclass(refusal, other) for other in others]), refusal)

    def test_classes_are_called_by_their_names(self):
        for refusal in REFUSALS + (LoomError,):
            self.assertEqual(getattr(errors, refusal.__name__), refusal)
            self.assertEqual(refusal.__module__, "waitloom.errors")

    def test_bad_name_tells_its_name(self):
        for name in ("x", "any", "abcdefgh"):
            refusal = BadName(name)
            self.assertEqual(refusal.name, name)
        first = BadName("x")
        BadName("y")
        self.assertEqual(first.name, "x")

    def test_bad_name_tells_its_name_where_it_is_taken(self):
        for taken in (BadName, LoomError, ValueError):
            with self.assertRaises(taken) as caught:
                raise BadName("loom")
            self.assertEqual(caught.exception.name, "loom")

    def test_others_are_made_with_words(self):
        for refusal in (BadTree, BadText, BadCount, BadCode, NoThing):
            with self.assertRaises(LoomError):
                raise refusal("some words")


if __name__ == "__main__":
    unittest.main()
