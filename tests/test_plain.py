import copy
import sys
import unittest

from samples import (
    DRY, END, ONE, RUNS, STATEMENTS, TERMS, X, Weaver, all_runs, deep_term, fault, nested, odd_things, program, reference,
    wide_program,
)
from waitloom.errors import BadCount, BadName, BadTree
from waitloom.plain import run_plain
from waitloom.reading import read

GREAT = 10 ** 12


def frames_open():
    """How many calls of Python's own are open now."""
    frame = sys._getframe()
    found = 0
    while frame is not None:
        found += 1
        frame = frame.f_back
    return found


class RunsTest(unittest.TestCase):
    def runs(self, text, inputs, limit, row, ending):
        tree = read(text)
        self.assertEqual(run_plain(tree, inputs, limit), (row, ending), text)
        self.assertEqual(reference(tree, inputs, limit), (row, ending), text)

    def point(self, number):
        for body, limit, row, ending in RUNS[number]:
            self.runs("(main () " + body + ")", [], limit, row, ending)

    def test_values_and_places(self):
        self.point("9")

    def test_signs_and_kinds(self):
        self.point("10")

    def test_calls(self):
        self.point("11")

    def test_steps(self):
        self.point("12")

    def test_whiles_hands_backs_and_faults(self):
        self.point("13")

    def test_tries(self):
        self.point("14")

    def test_inputs(self):
        self.runs("(main (x) (hand x))", [GREAT], 0, [GREAT], END)
        self.runs("(main (x y) (hand (- x y)) (hand (- y x)))", [5, 3], 0, [2, -2], END)
        self.runs("(main (a b c d) (hand d) (hand c) (hand b) (hand a))", [1, 2, 3, 4], 0, [4, 3, 2, 1], END)
        self.runs("(main (x) (let f (fun () (set x (+ x 1)))) (do (call f)) (hand x))", [-1], 1, [0], END)
        self.runs("(main (x) (while x ((hand x) (set x (- x 1)))))", [3], 9, [3, 2, 1], END)

    def test_kinds_of_what_is_told(self):
        told = run_plain(read("(main () (hand (< 1 2)) (hand (fun ())))"), [], 0)
        self.assertIs(type(told), tuple)
        self.assertIs(type(told[0]), list)
        self.assertIs(type(told[1]), tuple)
        self.assertIs(type(told[0][0]), int)
        self.assertIs(type(told[0][1]), str)

    def test_each_limit(self):
        """Just behind so many ticks as the limit tells the run is dry."""
        text = ("(main () (let k 0) (let w (call (loop () (while 1 ((hand k)))))) (let f (fun () (back k))) "
                "(while (< k 4) ((hand (+ 10 (call f))) (hand (step w 0)) (set k (+ k 1)))))")
        tree = read(text)
        ticks = ["while"]
        row = []
        for k in range(4):
            ticks += ["call", 10 + k, "step", "while", k, "while"]
        full = sum([1 for one in ticks if isinstance(one, str)])
        for limit in range(full + 3):
            row = []
            left = limit
            for one in ticks:
                if isinstance(one, int):
                    row.append(one)
                elif left == 0:
                    break
                else:
                    left -= 1
            self.runs(text, [], limit, row, END if limit >= full else DRY)
        self.assertEqual(run_plain(tree, [], 1000)[1], END)

    def test_each_limit_of_each_sample(self):
        """A run with a lesser limit has the beginning of the row, and is dry or the same."""
        for text, limit, row, ending in all_runs():
            tree = read(text)
            for less in range(0, min(limit, 40)):
                told = run_plain(tree, [], less)
                self.assertEqual(told, reference(tree, [], less))
                self.assertEqual(told[0], row[:len(told[0])])
                self.assertIn(told[1], (DRY, ending))

    def test_woven_programs(self):
        for seed in range(500):
            weaver = Weaver(seed)
            tree = weaver.program()
            inputs = [weaver.dice.choice((0, 1, 2, 5)) for name in tree[1]]
            limit = weaver.dice.choice((0, 1, 3, 10, 30, 100))
            self.assertEqual(run_plain(tree, inputs, limit), reference(tree, inputs, limit), seed)


class DepthTest(unittest.TestCase):
    def few_calls(self, tree, inputs, limit):
        """Run a program where Python itself may only open a hundred calls more."""
        before = sys.getrecursionlimit()
        sys.setrecursionlimit(frames_open() + 100)
        try:
            return run_plain(tree, inputs, limit)
        finally:
            sys.setrecursionlimit(before)

    def test_deep_terms(self):
        term = ONE
        for k in range(17):
            term = ("two", "+", ONE, term)
        self.assertEqual(self.few_calls(program(("hand", term)), [], 0), ([18], END))

    def test_deep_terms_in_which_calls_are_open(self):
        inner_term = ("call", ("name", "f"), ())
        for k in range(13):
            inner_term = ("two", "+", ONE, inner_term)
        fun = ("fun", (), (("set", "n", ("two", "+", ("name", "n"), ONE)),
                           ("if", ("two", "<", ("name", "n"), ("number", 30)), (("back", inner_term),), ()), ("back", ONE)))
        tree = program(("let", "n", ("number", 0)), ("let", "f", fun), ("hand", ("call", ("name", "f"), ())))
        self.assertEqual(self.few_calls(tree, [], 30), ([29 * 13 + 1], END))
        self.assertEqual(self.few_calls(tree, [], 29), ([], DRY))

    def test_deep_statements_in_which_steps_are_open(self):
        body = (("hand", ("step", ("call", ("name", "l"), ()), ONE)),)
        for k in range(4):
            body = (("while", ONE, (("try", (("if", ONE, body, ()),), "oh", "e" + "abcde"[k], (), ()),)),)
        tree = program(("let", "l", ("loop", (), body)), ("hand", ("step", ("call", ("name", "l"), ()), ONE)))
        self.assertEqual(self.few_calls(tree, [], 1000), ([], fault("deep")))
        self.assertEqual(self.few_calls(tree, [], 60), ([], DRY))

    def test_long_chains_of_places(self):
        text = ("(main () (let f (fun () (back 0))) (let m (fun (g) (back (fun () (back g))))) (let k 0) "
                "(while (< k 450) ((set f (call m f)) (set k (+ k 1)))) (hand k) (set f 0) (hand f))")
        self.assertEqual(self.few_calls(read(text), [], 1000), ([450, 0], END))

    def test_long_chains_of_waiting_loops(self):
        text = ("(main () (let l (loop (v) (hand v))) (let w 0) (let k 0) "
                "(while (< k 900) ((set w (call l (call l (call l (call l (call l (call l w))))))) (set k (+ k 1)))) "
                "(hand (step w 0)) (hand k))")
        self.assertEqual(self.few_calls(read(text), [], 1000), (["waiting", 900], END))

    def test_as_many_parts_as_may_be(self):
        self.assertEqual(self.few_calls(wide_program(300), [], 0), ([], END))


class RefusalTest(unittest.TestCase):
    def refused(self, error, *things):
        with self.assertRaises(error) as caught:
            run_plain(*things)
        self.assertIs(type(caught.exception), error)
        return caught.exception

    def test_programs(self):
        for thing in odd_things() + list(TERMS.values()) + list(STATEMENTS.values()):
            self.refused(BadTree, thing, [], 0)
        self.refused(BadTree, wide_program(301), [], 0)
        self.refused(BadTree, program(("do", deep_term(19))), [], 0)
        for deep in (nested(8000, tuple), nested(8000, list), deep_term(8000)):
            self.refused(BadTree, program(("do", deep)), [], 0)

    def test_names(self):
        self.assertEqual(self.refused(BadName, program(("do", X)), [], 0).name, "x")
        self.assertEqual(self.refused(BadName, read("(main (y) (let y 1))"), [1], 0).name, "y")
        # Even where the run would never come there.
        self.assertEqual(self.refused(BadName, read("(main () (back 1) (if 0 ((do z)) ()))"), [], 0).name, "z")

    def test_inputs(self):
        tree = read("(main (x y) (hand x))")
        for inputs in ([], [1], [1, 2, 3], (1, 2), "12", {1: 2, 2: 3}, None, 2, [1, True], [False, 1], [1, None], [1, "2"],
                       [1, 2.0], [1, GREAT + 1], [-GREAT - 1, 1], [[1], [2]], [1, nested(5000, list)], range(2)):
            self.refused(BadCount, tree, inputs, 5)
        for thing in odd_things():
            self.refused(BadCount, tree, thing, 5)
            self.refused(BadCount, tree, [1, thing], 5)
            self.refused(BadCount, tree, [thing, 1], 5)
        self.refused(BadCount, program(), [1], 5)
        self.refused(BadCount, program(), (), 5)
        self.assertEqual(run_plain(tree, [GREAT, -GREAT], 5), ([GREAT], END))

    def test_limits(self):
        for limit in odd_things() + [-1, 1001, 1002, -1000, "5", "", [5], (5,), 5.0]:
            self.refused(BadCount, program(), [], limit)
        for limit in (0, 1, 999, 1000):
            self.assertEqual(run_plain(program(), [], limit), ([], END))

    def test_the_order_of_refusals(self):
        self.refused(BadTree, program(("do", X), ("do", 1)), [1], -1)
        self.refused(BadName, program(("do", X)), [1], -1)
        self.refused(BadName, program(("do", X)), None, 0)
        self.refused(BadTree, None, None, None)

    def test_nothing_handed_in_is_changed(self):
        tree = read("(main (x y) (set x 9) (let f (fun () (set y x))) (do (call f)) (hand y))")
        before = copy.deepcopy(tree)
        inputs = [1, 2]
        self.assertEqual(run_plain(tree, inputs, 5), ([9], END))
        self.assertEqual(inputs, [1, 2])
        self.assertEqual(tree, before)

    def test_what_is_told_is_the_askers_own(self):
        tree = read("(main (x) (hand x) (hand 2))")
        first = run_plain(tree, [1], 5)
        first[0].append(9)
        first[0].reverse()
        second = run_plain(tree, [1], 5)
        self.assertEqual(second, ([1, 2], END))
        self.assertEqual(first[0], [9, 2, 1])

    def test_runs_know_nothing_of_one_another(self):
        tree = read("(main () (let f (fun () (back x))) (try ((hand (call f))) unset e ((hand 0)) ()) (let x 5))")
        for k in range(3):
            self.assertEqual(run_plain(tree, [], 5), ([0], END))


if __name__ == "__main__":
    unittest.main()
