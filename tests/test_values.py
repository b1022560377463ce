import unittest

from samples import odd_things
from waitloom.reading import read
from waitloom.values import (
    Dry, Fault, Function, Place, Ticks, are_inputs, as_handed, catches_word, is_limit, need_number, new_places, outcome,
)

GREAT = 10 ** 12


class FaultsTest(unittest.TestCase):
    def faults(self, word, asked, *things):
        with self.assertRaises(Fault) as caught:
            asked(*things)
        self.assertEqual((caught.exception.word, caught.exception.number), (word, 0))

    def test_signs(self):
        told = [
            ("+", 2, 3, 5), ("-", 2, 3, -1), ("*", 2, -3, -6), ("<", 2, 3, 1), ("<", 3, 2, 0), ("<", 2, 2, 0), ("=", 2, 2, 1),
            ("=", 2, 3, 0), ("=", -GREAT, -GREAT, 1), ("<", -GREAT, GREAT, 1), ("=", GREAT, -GREAT, 0),
        ]
        for sign, first, second, expected in told:
            self.assertEqual(outcome(sign, first, second), expected, sign)
            self.assertNotIsInstance(outcome(sign, first, second), bool)

    def test_signs_at_the_bounds(self):
        self.assertEqual(outcome("+", GREAT - 1, 1), GREAT)
        self.assertEqual(outcome("-", 1 - GREAT, 1), -GREAT)
        self.assertEqual(outcome("*", 10 ** 6, 10 ** 6), GREAT)
        self.assertEqual(outcome("*", -(10 ** 6), 10 ** 6), -GREAT)
        self.assertEqual(outcome("-", GREAT, GREAT), 0)

    def test_one_beyond(self):
        self.faults("great", outcome, "+", GREAT, 1)
        self.faults("great", outcome, "+", -GREAT, -1)
        self.faults("great", outcome, "-", -GREAT, 1)
        self.faults("great", outcome, "-", GREAT, -1)
        self.faults("great", outcome, "*", 9999, 10 ** 9)
        self.faults("great", outcome, "*", GREAT, GREAT)
        self.faults("great", outcome, "*", -GREAT, GREAT)

    def test_what_must_be_a_number(self):
        self.assertIsNone(need_number(0))
        self.assertIsNone(need_number(-GREAT))
        for tree in ("(fun ())", "(loop ())"):
            function = Function(read("(main () (do " + tree + "))")[2][0][1], {})
            self.faults("kind", need_number, function)

    def test_places(self):
        place = Place()
        self.faults("unset", place.asked)
        for value in (5, 0, -1):
            place.give(value)
            self.assertEqual(place.asked(), value)

    def test_catchers(self):
        self.assertTrue(catches_word("oh", "oh"))
        self.assertTrue(catches_word("any", "oh"))
        self.assertTrue(catches_word("any", "deep"))
        self.assertFalse(catches_word("oh", "ah"))
        self.assertFalse(catches_word("ohh", "oh"))


class TicksTest(unittest.TestCase):
    def test_so_many_as_the_limit(self):
        for limit in (0, 1, 2, 30, 1000):
            ticks = Ticks(limit)
            for k in range(limit):
                ticks.tick()
            for k in range(3):
                self.assertRaises(Dry, ticks.tick)

    def test_dry_is_no_fault(self):
        self.assertFalse(issubclass(Dry, Fault))
        self.assertFalse(issubclass(Fault, Dry))

    def test_openings(self):
        ticks = Ticks(2)
        ticks.tick_for_opening(0)
        with self.assertRaises(Fault) as caught:
            ticks.tick_for_opening(30)
        self.assertEqual((caught.exception.word, caught.exception.number), ("deep", 0))
        ticks.tick_for_opening(29)
        self.assertRaises(Dry, ticks.tick_for_opening, 29)
        # What is deep is so even where no tick is left.
        self.assertRaises(Fault, ticks.tick_for_opening, 30)


class FunctionsTest(unittest.TestCase):
    def function(self, text, places):
        return Function(read("(main () (do " + text + "))")[2][0][1], places)

    def test_kinds(self):
        self.assertEqual(self.function("(fun ())", {}).kind, "fun")
        self.assertEqual(self.function("(loop ())", {}).kind, "loop")
        self.assertEqual(as_handed(self.function("(fun ())", {})), "fun")
        self.assertEqual(as_handed(self.function("(loop ())", {})), "loop")
        self.assertEqual(as_handed(-12), -12)

    def test_new_places_for_each_call(self):
        function = self.function("(fun (x y) (let z 1) (do (fun (w) (let v 1))))", {})
        first = new_places(function, [1, 2])
        second = new_places(function, [3, 4])
        self.assertEqual(sorted(first), ["x", "y", "z"])
        self.assertEqual([first["x"].asked(), first["y"].asked()], [1, 2])
        self.assertEqual([second["x"].asked(), second["y"].asked()], [3, 4])
        self.assertRaises(Fault, first["z"].asked)
        first["z"].give(9)
        self.assertRaises(Fault, second["z"].asked)

    def test_places_round_it_are_kept_and_not_their_values(self):
        outer = Place()
        hidden = Place()
        outer.give(1)
        hidden.give(2)
        function = self.function("(fun (y) (back x))", {"x": outer, "y": hidden})
        places = new_places(function, [5])
        outer.give(7)
        self.assertEqual(places["x"].asked(), 7)
        self.assertEqual(places["y"].asked(), 5)
        self.assertEqual(hidden.asked(), 2)


class CountsTest(unittest.TestCase):
    def test_limits(self):
        for limit in (0, 1, 999, 1000):
            self.assertTrue(is_limit(limit))
        for limit in (-1, 1001, 10 ** 20) + tuple(odd_things()):
            self.assertFalse(is_limit(limit))

    def test_inputs(self):
        self.assertTrue(are_inputs([], 0))
        self.assertTrue(are_inputs([0, -GREAT, GREAT], 3))
        for inputs, params in (([], 1), ([1], 0), ([1, 2], 1), ((1,), 1), ((), 0), ("", 0), ("1", 1), ({1: 2}, 1), ({}, 0)):
            self.assertFalse(are_inputs(inputs, params))
        for thing in odd_things():
            self.assertFalse(are_inputs([1, thing], 2))
            self.assertIs(are_inputs(thing, 0), isinstance(thing, list) and len(thing) == 0)


if __name__ == "__main__":
    unittest.main()
