import random
import sys
import unittest

from samples import nested, odd_things
from waitloom.errors import NoThing
from waitloom.heap import Heap
from waitloom.things import ended_waiting, named_by, named_in, open_waiting


def thing(k):
    return ("thing", k)


def number(n):
    return ("number", n)


# One thing of each kind, of a heap that has boxes 0 to 3.
KINDS = (
    ("box", None), ("box", ("number", -5)), ("box", ("thing", 0)), ("fun", 0, ()), ("fun", 3, (0, 1, 1)), ("loop", 7, (2,)),
    ("waiting", 2, 0, (), (), ()), ("waiting", 2, 5, (None, ("number", 1), ("thing", 3)), (0, 1), (2,)),
    ("waiting", 2, "open", (), (), (1, 2)), ("waiting", 2, "ended", (), (), ()),
)


def boxes(heap, times):
    return [heap.put(("box", None)) for k in range(times)]


class ThingsTest(unittest.TestCase):
    def no_thing(self, asked, *things):
        with self.assertRaises(NoThing) as caught:
            asked(*things)
        self.assertIs(type(caught.exception), NoThing)

    def test_numbers_from_nought_on(self):
        heap = Heap()
        self.assertEqual(heap.numbers(), [])
        self.assertEqual(boxes(heap, 4), [0, 1, 2, 3])
        self.assertEqual(heap.numbers(), [0, 1, 2, 3])

    def test_each_kind_is_told_as_it_was_put(self):
        heap = Heap()
        boxes(heap, 4)
        for place, one in enumerate(KINDS):
            self.assertEqual(heap.put(one), place + 4)
            self.assertEqual(heap.thing(place + 4), one)
        for place, one in enumerate(KINDS):
            self.assertEqual(heap.thing(place + 4), one)
            self.assertIsInstance(heap.thing(place + 4), tuple)

    def test_change(self):
        heap = Heap()
        boxes(heap, 4)
        for one in KINDS:
            self.assertIsNone(heap.change(2, one))
            self.assertEqual(heap.thing(2), one)
            self.assertEqual([heap.thing(k) for k in (0, 1, 3)], [("box", None)] * 3)
            self.assertEqual(heap.numbers(), [0, 1, 2, 3])
        self.assertEqual(heap.put(("box", None)), 4)

    def test_no_number_is_used_again(self):
        heap = Heap()
        boxes(heap, 5)
        self.assertEqual(heap.collect([thing(1), thing(3)]), [0, 2, 4])
        self.assertEqual(heap.put(("box", number(7))), 5)
        self.assertEqual(heap.numbers(), [1, 3, 5])
        self.assertEqual(heap.collect([]), [1, 3, 5])
        self.assertEqual(heap.numbers(), [])
        self.assertEqual(heap.put(("box", number(8))), 6)
        self.assertEqual(heap.thing(6), ("box", number(8)))

    def test_numbers_that_are_not_there(self):
        heap = Heap()
        for k in (0, 1, -1):
            self.no_thing(heap.thing, k)
            self.no_thing(heap.change, k, ("box", None))
        boxes(heap, 3)
        heap.collect([thing(0), thing(2)])
        for k in (1, 3, 4, -1, -2, -3, 10 ** 30):
            self.no_thing(heap.thing, k)
            self.no_thing(heap.change, k, ("box", None))
        self.assertEqual(heap.numbers(), [0, 2])

    def test_what_is_no_number(self):
        heap = Heap()
        boxes(heap, 3)
        for k in odd_things() + ["0", "", (0,), [0], {0: 1}, ("thing", 0), 0.0, 1.0, True, False, None, nested(5000, tuple)]:
            self.no_thing(heap.thing, k)
            self.no_thing(heap.change, k, ("box", number(1)))
        self.assertEqual([heap.thing(k) for k in heap.numbers()], [("box", None)] * 3)

    def test_what_is_told_is_the_askers_own(self):
        heap = Heap()
        boxes(heap, 3)
        for told in (heap.numbers(), heap.reached([thing(0), thing(1), thing(2)])):
            self.assertEqual(told, [0, 1, 2])
            told.append(9)
            told.reverse()
            self.assertEqual(heap.numbers(), [0, 1, 2])
        kept = heap.thing(1)
        heap.change(1, ("box", number(4)))
        self.assertEqual(kept, ("box", None))
        gone = heap.collect([thing(1)])
        gone.clear()
        self.assertEqual(heap.numbers(), [1])

    def test_values_handed_in_stay(self):
        heap = Heap()
        boxes(heap, 3)
        values = [thing(0), None, number(2), thing(0)]
        heap.reached(values)
        heap.collect(values)
        self.assertEqual(values, [thing(0), None, number(2), thing(0)])
        values.append(thing(1))
        self.assertEqual(heap.numbers(), [0])

    def test_heaps_know_nothing_of_one_another(self):
        first = Heap()
        second = Heap()
        boxes(first, 3)
        self.assertEqual(second.numbers(), [])
        self.assertEqual(boxes(second, 1), [0])
        second.collect([])
        self.assertEqual(first.numbers(), [0, 1, 2])

    def test_what_stands_in_things(self):
        told = [[], [], [0], [], [0, 1, 1], [2], [], [3, 0, 1, 2], [1, 2], []]
        for one, expected in zip(KINDS, told):
            self.assertEqual(named_in(one), expected)
        self.assertEqual(named_by([None, number(3), thing(3), thing(2), None, thing(3)]), [3, 2, 3])
        self.assertEqual(named_by([]), [])

    def test_waiting_loops_that_do_not_wait(self):
        self.assertEqual(open_waiting(2, (4, 5)), ("waiting", 2, "open", (), (), (4, 5)))
        self.assertEqual(ended_waiting(2), ("waiting", 2, "ended", (), (), ()))


class ReachedTest(unittest.TestCase):
    def test_from_nothing(self):
        heap = Heap()
        self.assertEqual(heap.reached([]), [])
        boxes(heap, 3)
        self.assertEqual(heap.reached([]), [])
        self.assertEqual(heap.reached([None, number(0), number(1), None]), [])
        self.assertEqual(heap.numbers(), [0, 1, 2])

    def test_each_kind(self):
        heap = Heap()
        boxes(heap, 4)
        reached = [[4], [5], [0, 6], [7], [0, 1, 8], [2, 9], [10], [0, 1, 2, 3, 11], [1, 2, 12], [13]]
        for one, expected in zip(KINDS, reached):
            k = heap.put(one)
            self.assertEqual(heap.reached([thing(k)]), expected)

    def test_numbers_are_not_things(self):
        heap = Heap()
        boxes(heap, 3)
        k = heap.put(("waiting", 1, 2, (number(0), number(1)), (2,), ()))
        self.assertEqual(heap.reached([number(1), thing(k)]), [2, 3])

    def test_the_same_value_twice(self):
        heap = Heap()
        boxes(heap, 2)
        self.assertEqual(heap.reached([thing(1), thing(1), thing(0), thing(1)]), [0, 1])

    def test_through_others(self):
        heap = Heap()
        boxes(heap, 3)
        fun = heap.put(("fun", 1, (0,)))
        heap.change(1, ("box", thing(fun)))
        loop = heap.put(("loop", 2, (1,)))
        heap.change(2, ("box", thing(loop)))
        self.assertEqual(heap.reached([thing(2)]), [0, 1, 2, fun, loop])
        self.assertEqual(heap.reached([thing(1)]), [0, 1, fun])
        self.assertEqual(heap.reached([thing(fun)]), [0, fun])

    def test_rings(self):
        heap = Heap()
        boxes(heap, 4)
        fun = heap.put(("fun", 1, (0, 1)))
        heap.change(0, ("box", thing(fun)))
        heap.change(2, ("box", thing(2)))
        self.assertEqual(heap.reached([thing(0)]), [0, 1, fun])
        self.assertEqual(heap.reached([thing(2)]), [2])
        self.assertEqual(heap.collect([thing(3)]), [0, 1, 2, fun])
        self.assertEqual(heap.numbers(), [3])

    def test_collect_takes_what_is_not_reached_alone(self):
        heap = Heap()
        boxes(heap, 4)
        for one in KINDS:
            heap.put(one)
        before = {k: heap.thing(k) for k in heap.numbers()}
        self.assertEqual(heap.collect([thing(11), number(4), None]), [4, 5, 6, 7, 8, 9, 10, 12, 13])
        self.assertEqual(heap.numbers(), [0, 1, 2, 3, 11])
        self.assertEqual({k: heap.thing(k) for k in heap.numbers()}, {k: before[k] for k in (0, 1, 2, 3, 11)})
        self.assertEqual(heap.collect([thing(11)]), [])

    def test_nothing_is_kept_of_earlier_values(self):
        heap = Heap()
        boxes(heap, 2)
        heap.reached([thing(0)])
        heap.collect([thing(0), thing(1)])
        self.assertEqual(heap.collect([]), [0, 1])

    def test_what_was_changed_away(self):
        heap = Heap()
        boxes(heap, 2)
        heap.change(0, ("box", thing(1)))
        self.assertEqual(heap.reached([thing(0)]), [0, 1])
        heap.change(0, ("box", number(1)))
        self.assertEqual(heap.collect([thing(0)]), [1])

    def test_long_chains(self):
        heap = Heap()
        heap.put(("box", None))
        before = sys.getrecursionlimit()
        for k in range(1, 20000):
            kinds = (("box", thing(k - 1)), ("fun", 0, (k - 1,)), ("loop", 0, (k - 1,)), ("waiting", 0, 0, (thing(k - 1),), (), ()),
                     ("waiting", 0, 0, (), (k - 1,), ()), ("waiting", 0, "open", (), (), (k - 1,)))
            heap.put(kinds[k % 6])
        self.assertEqual(heap.reached([thing(19999)]), list(range(20000)))
        self.assertEqual(heap.reached([thing(9999)]), list(range(10000)))
        self.assertEqual(heap.collect([thing(9999)]), list(range(10000, 20000)))
        self.assertEqual(heap.collect([]), list(range(10000)))
        self.assertEqual(sys.getrecursionlimit(), before)

    def test_chance_heaps(self):
        dice = random.Random(41)
        for k in range(300):
            heap = Heap()
            size = dice.randrange(1, 12)
            boxes(heap, size)
            links = {}
            for one in range(size):
                links[one] = [dice.randrange(size) for times in range(dice.randrange(3))]
                heap.change(one, self.chance_thing(dice, links[one]))
            values = [dice.choice((None, number(0), thing(dice.randrange(size)))) for one in range(dice.randrange(4))]
            expected = [one[1] for one in values if one is not None and one[0] == "thing"]
            for one in expected:
                # What is found on the way is walked too, since it is put behind.
                expected.extend([other for other in links[one] if other not in expected])
            self.assertEqual(heap.reached(values), sorted(set(expected)))
            self.assertEqual(heap.collect(values), [one for one in range(size) if one not in expected])
            self.assertEqual(heap.numbers(), sorted(set(expected)))

    def chance_thing(self, dice, links):
        """A thing of some kind in which just these stand."""
        if len(links) < 2 and dice.randrange(3) == 0:
            return ("box", thing(links[0]) if links else dice.choice((None, number(1))))
        kind = dice.choice(("fun", "loop", "waiting"))
        if kind != "waiting":
            return (kind, 0, tuple(links))
        parts = [[], [], []]
        for one in links:
            dice.choice(parts).append(one)
        slots = [thing(one) for one in parts[0]] + [None, number(0)]
        dice.shuffle(slots)
        return (kind, 0, 3, tuple(slots), tuple(parts[1]), tuple(parts[2]))


if __name__ == "__main__":
    unittest.main()
