import unittest

from samples import DO, EMPTY, ONE
from waitloom.reading import read
from waitloom.values import Fault, Function, as_handed
from waitloom.waits import Course, Waiting


def function_of(text):
    return Function(read("(main () (do " + text + "))")[2][0][1], {})


class CourseTest(unittest.TestCase):
    def test_it_begins_with_its_body(self):
        course = Course(function_of("(fun (x) (do 1) (try () any e () ()))"), [5])
        self.assertEqual(course.work, [EMPTY, DO])
        self.assertEqual(course.unused, [])
        self.assertIsNone(course.waiting)
        self.assertEqual(course.places["x"].asked(), 5)
        self.assertRaises(Fault, course.places["e"].asked)

    def test_what_is_planned_comes_first(self):
        course = Course(function_of("(fun () (do 1))"), [])
        course.plan((ONE, ("drop",)))
        self.assertEqual([course.work.pop() for k in range(3)], [ONE, ("drop",), DO])

    def test_values_are_used_from_the_last_on(self):
        course = Course(function_of("(fun ())"), [])
        for value in (1, 2, 3):
            course.tell(value)
        self.assertEqual([course.use(), course.use()], [3, 2])
        self.assertEqual(course.unused, [1])

    def test_a_fault_leaves_what_stands_within_a_try(self):
        inner_try = ("try", (DO,), "oh", "e", (), ())
        outer_try = ("try", (inner_try, DO), "any", "e", (), ())
        for word, expected, left in (("oh", inner_try, [DO, ("within", outer_try), DO]), ("ah", outer_try, [DO])):
            course = Course(function_of("(fun () (do 1))"), [])
            course.plan((DO, ("within", inner_try), DO, ("within", outer_try)))
            course.tell(7)
            self.assertEqual(course.catcher(word), expected)
            self.assertEqual(list(reversed(course.work)), left)
            self.assertEqual(course.unused, [])

    def test_a_fault_that_no_try_catches(self):
        course = Course(function_of("(fun () (do 1))"), [])
        course.plan((DO, ("within", ("try", (DO,), "oh", "e", (), ()))))
        self.assertIsNone(course.catcher("ah"))
        self.assertEqual(course.work, [])


class WaitingTest(unittest.TestCase):
    def test_it_waits_at_the_beginning_of_its_body(self):
        waiting = Waiting(function_of("(loop (x) (hand x))"), [4])
        self.assertEqual(as_handed(waiting), "waiting")
        self.assertFalse(waiting.stepped)
        self.assertFalse(waiting.has_ended())
        course = waiting.begin_step()
        self.assertEqual(course.work, [("hand", ("name", "x"))])
        self.assertEqual(course.places["x"].asked(), 4)
        self.assertIs(course.waiting, waiting)

    def test_it_is_stepped_and_waits_again(self):
        waiting = Waiting(function_of("(loop () (hand 1) (do 1))"), [])
        course = waiting.begin_step()
        self.assertTrue(waiting.stepped)
        self.assertFalse(waiting.has_ended())
        course.work.pop()
        waiting.wait()
        self.assertFalse(waiting.stepped)
        self.assertIs(waiting.begin_step(), course)
        self.assertEqual(course.work, [DO])

    def test_it_ends_for_good(self):
        waiting = Waiting(function_of("(loop ())"), [])
        waiting.begin_step()
        waiting.finish()
        self.assertTrue(waiting.has_ended())
        self.assertFalse(waiting.stepped)
        self.assertIsNone(waiting.course)

    def test_each_call_waits_by_itself(self):
        function = function_of("(loop (x) (let y 1))")
        first = Waiting(function, [1])
        second = Waiting(function, [2])
        first.begin_step().places["y"].give(9)
        self.assertFalse(second.stepped)
        self.assertRaises(Fault, second.course.places["y"].asked)
        self.assertEqual((first.course.places["x"].asked(), second.course.places["x"].asked()), (1, 2))


if __name__ == "__main__":
    unittest.main()
