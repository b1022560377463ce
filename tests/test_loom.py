import unittest

from samples import all_runs, odd_things
from waitloom.errors import BadCount, BadName, BadText
from waitloom.loom import answered
from waitloom.plain import run_plain
from waitloom.reading import read


class AnsweredTest(unittest.TestCase):
    def test_lines(self):
        told = [
            ("(main ())", [], 0, ["end"]),
            ("(main (x) (hand x) (hand -12) (hand 0))", [1000000000000], 0, ["hand 1000000000000", "hand -12", "hand 0", "end"]),
            ("(main () (hand (fun ())) (hand (loop ())) (hand (call (loop ()))))", [], 0,
             ["hand fun", "hand loop", "hand waiting", "end"]),
            ("(main () (hand 1) (fault oh -5))", [], 0, ["hand 1", "fault oh -5"]),
            ("(main (x) (hand (+ x 1)))", [10 ** 12], 0, ["fault great 0"]),
            ("(main () (while 1 ((hand 7))))", [], 2, ["hand 7", "hand 7", "dry"]),
            ("\n (main (x y)\n(hand(- x y)))\n", [5, 3], 0, ["hand 2", "end"]),
        ]
        for text, inputs, limit, lines in told:
            for room in (0, 1, 1000):
                self.assertEqual(answered(text, inputs, limit, room), lines, text)

    def test_kinds(self):
        lines = answered("(main () (hand 1))", [], 0, 0)
        self.assertIs(type(lines), list)
        self.assertEqual([type(line) for line in lines], [str, str])

    def test_samples(self):
        for text, limit, row, ending in all_runs():
            lines = ["hand " + str(value) for value in row] + [" ".join([str(one) for one in ending])]
            self.assertEqual(answered(text, [], limit, 4), lines)
            self.assertEqual(run_plain(read(text), [], limit), (row, ending))

    def test_what_is_told_is_the_askers_own(self):
        first = answered("(main () (hand 1))", [], 0, 0)
        first.clear()
        self.assertEqual(answered("(main () (hand 1))", [], 0, 0), ["hand 1", "end"])

    def test_inputs_stay(self):
        inputs = [4]
        self.assertEqual(answered("(main (x) (set x 5) (hand x))", inputs, 0, 0), ["hand 5", "end"])
        self.assertEqual(inputs, [4])


class RefusalTest(unittest.TestCase):
    def refused(self, error, *things):
        with self.assertRaises(error) as caught:
            answered(*things)
        self.assertIs(type(caught.exception), error)
        return caught.exception

    def test_texts(self):
        for text in odd_things() + ["", "main", "(main)", "(main ()", "(main ()))", "(main () (do))", "(" * 6000, "(main ())" + " " * 6000,
                                    "(main () (do (fun () (hand 1))))", ("main", (), ()), 5]:
            self.refused(BadText, text, [], 0, 0)

    def test_names(self):
        self.assertEqual(self.refused(BadName, "(main () (hand x))", [], 0, 0).name, "x")
        self.assertEqual(self.refused(BadName, "(main (y) (let y 1))", [1], 0, 0).name, "y")

    def test_counts(self):
        text = "(main (x) (hand x))"
        for one in odd_things() + [-1, 1001, "5", [5], 5.0, True, None]:
            self.refused(BadCount, text, [1], one, 0)
            self.refused(BadCount, text, [1], 0, one)
        for one in odd_things():
            self.refused(BadCount, text, [one], 0, 0)
        for inputs in ([], [1, 2], (1,), "1", None, [True], [10 ** 12 + 1]):
            self.refused(BadCount, text, inputs, 0, 0)

    def test_the_order_of_refusals(self):
        self.refused(BadText, "(main () (do x) (do))", [1], -1, -1)
        self.refused(BadText, None, None, None, None)
        self.refused(BadName, "(main () (do x))", [1], -1, -1)
        self.refused(BadName, "(main () (do x))", None, None, None)
        self.refused(BadCount, "(main ())", None, None, None)


if __name__ == "__main__":
    unittest.main()
