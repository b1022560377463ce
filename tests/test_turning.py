import copy
import unittest

from samples import (
    DO, EMPTY, ONE, STATEMENTS, TERMS, X, Weaver, all_runs, count, deep_term, height, nested, odd_things, program,
    sound_by_sets, wide_program,
)
from waitloom.emitting import Emitter, place_in
from waitloom.errors import BadName, BadTree
from waitloom.reading import read
from waitloom.scopes import functions_of, scopes_of
from waitloom.terms import emit_term
from waitloom.turning import turned


def widest_programs():
    """Programs of 300 parts or 20 deep, of each sort of part that makes many states, rows, slots or catches."""
    def rows_of(statement, times):
        """A program with a statement so often, renamed nowhere."""
        rows = [statement] * times
        while len(rows) > 12:
            rows = [("if", ONE, tuple(rows[k:k + 12]), tuple(rows[k + 12:k + 24])) for k in range(0, len(rows), 24)]
        return ("main", ("x",), tuple(rows))

    def deep(begin, wrap, times):
        body = begin
        for k in range(times):
            body = wrap(body, k)
        return ("main", ("x",), body)

    letters = "abcdefghijklmnopqrst"
    wide_call = ("call", X, (X, X, X, X))
    return [
        rows_of(DO, 136), rows_of(("while", X, ()), 136), rows_of(("if", X, (), ()), 136), rows_of(("hand", X), 136),
        rows_of(("back", X), 136), rows_of(("fault", "oh", X), 136), rows_of(("do", ("step", X, X)), 68),
        rows_of(("do", ("call", X, ())), 92), rows_of(("do", wide_call), 40), rows_of(("do", ("fun", (), ())), 136),
        rows_of(("do", ("loop", ("x",), (("hand", X),))), 68), rows_of(("set", "x", ("two", "+", X, X)), 68),
        deep((("do", X),), lambda body, k: (("try", body, "any", letters[k], (), ()),), 17),
        deep((), lambda body, k: (("try", body, "any", letters[k], (), ()),), 19),
        deep((("do", X),), lambda body, k: (("try", (), "any", letters[k], (), body),), 17),
        deep((("do", X),), lambda body, k: (("while", X, body),), 17),
        deep((("do", deep_term(18)),), lambda body, k: body, 0),
        deep_calls(), many_tries(299), wide_program(300),
    ]


def deep_calls():
    """Calls with four terms within one another's last term: so many values wait at once."""
    term = X
    for k in range(17):
        term = ("call", X, (X, X, X, term))
    return ("main", ("x",), (("do", term),))


def many_tries(times):
    """A program that is but tries, each with a name of its own."""
    def name(k):
        return "abcdefghij"[k // 100] + "abcdefghij"[k // 10 % 10] + "abcdefghij"[k % 10]
    rows = []
    number = 0
    while number < times:
        inner_ones = []
        for k in range(min(24, times - number - 1)):
            inner_ones.append(("try", (), "any", name(number), (), ()))
            number += 1
        rows.append(("try", tuple(inner_ones[:12]), "any", name(number), tuple(inner_ones[12:]), ()))
        number += 1
    return program(*rows)


class MachinesTest(unittest.TestCase):
    def check(self, tree):
        """Look at all that a code tells of its functions, and at its form."""
        code = turned(tree)
        self.assertIsInstance(code, tuple)
        functions = functions_of(tree)
        scopes = scopes_of(tree)
        self.assertEqual(len(code), len(functions))
        for number, machine in enumerate(code):
            kind, outer, params, names, slots, boxed, taken, states = machine
            self.assertEqual((kind, outer, params), (functions[number][0], functions[number][3], len(functions[number][1])))
            self.assertEqual((names, boxed, len(taken)), (len(scopes[number][1]), scopes[number][2], len(scopes[number][3])))
            self.assertTrue(names <= slots <= 1000)
            for name, place in zip(scopes[number][3], taken):
                self.assertEqual(place, self.place_of(scopes[outer], name))
            self.assertTrue(1 <= len(states) <= 2000)
            for rows, end, catches in states:
                self.assertLessEqual(len(rows), 1000)
                self.assertLessEqual(len(catches), 20)
                self.assertTrue(end[0] != "hand" or kind in ("main", "loop"))
        self.assertTrue(sound_by_sets(code), tree)
        return code

    def place_of(self, scope, name):
        if name in scope[1]:
            self.assertIn(scope[1].index(name), scope[2])
            return ("box", scope[1].index(name))
        return ("taken", scope[3].index(name))

    def test_the_program_alone(self):
        code = self.check(program())
        self.assertEqual(code, (("main", None, 0, 0, 0, (), (), (((), ("back", None), ()),)),))

    def test_functions(self):
        code = self.check(read("(main (x y) (let f (fun (a) (back (+ a y)))) (let l (loop () (hand (call f x)))))"))
        self.assertEqual([machine[:4] + machine[5:7] for machine in code], [
            ("main", None, 2, 4, (0, 1, 2), ()), ("fun", 0, 1, 1, (), (("box", 1),)),
            ("loop", 0, 0, 0, (), (("box", 2), ("box", 0))),
        ])

    def test_names_from_further_out(self):
        code = self.check(read("(main (x) (do (fun (y) (do (loop (z) (do (fun (w) (back (+ x (+ y (+ z w)))))))))))"))
        self.assertEqual([machine[5:7] for machine in code], [
            ((0,), ()), ((0,), (("box", 0),)), ((0,), (("taken", 0), ("box", 0))),
            ((), (("taken", 0), ("taken", 1), ("box", 0))),
        ])

    def test_each_part(self):
        for term in TERMS.values():
            self.check(("main", ("x",), (("do", term),)))
        for head, statement in STATEMENTS.items():
            if head in ("let", "try"):
                self.check(("main", (), (statement,)))
            else:
                self.check(("main", ("x",), (statement,)))

    def test_functions_in_code_to_which_no_way_leads(self):
        code = self.check(read("(main () (back 1) (do (fun (a))) (fault oh 1) (do (loop (a b))) (hand (fun (a b c))))"))
        self.assertEqual([machine[2] for machine in code], [0, 1, 2, 3])

    def test_functions_in_the_order_of_the_text(self):
        """Each make names the machine of its own term, as the parameters show."""
        code = self.check(read("(main () (do (call (fun ()) (fun (a)))) (do (step (loop (a b)) (fun (a b c)))) "
                               "(try ((hand (fun ()))) any e ((hand (fun (a)))) ((hand (fun (a b))))))"))
        self.assertEqual([machine[2] for machine in code[1:]], [0, 1, 2, 3, 0, 1, 2])
        makes = [row[2] for rows, end, catches in code[0][7] for row in rows if row[0] == "make"]
        self.assertEqual(sorted(makes), [1, 2, 3, 4, 5, 6, 7])

    def test_tries_catch_where_they_stand(self):
        code = self.check(read("(main (x) (try ((do x) (try ((hand x)) oh e ((set x 1)) ((set x 2)))) any d ((set x 3)) ()))"))
        told = {}
        for rows, end, catches in code[0][7]:
            for row in rows:
                told[row[0], row[2] if row[0] == "number" else None] = [(word, place) for word, place, state in catches]
            if end[0] == "hand":
                told["hand"] = [(word, place) for word, place, state in catches]
        inner_catch = ("oh", ("slot", 1))
        outer_catch = ("any", ("slot", 2))
        self.assertEqual(told["hand"], [inner_catch, outer_catch])
        self.assertEqual(told["number", 1], [outer_catch])
        self.assertEqual(told["number", 2], [outer_catch])
        self.assertEqual(told["number", 3], [])

    def test_samples(self):
        for text, limit, row, ending in all_runs():
            self.check(read(text))

    def test_woven_programs(self):
        for seed in range(300):
            self.check(Weaver(seed).program())

    def test_as_wide_and_deep_as_may_be(self):
        trees = widest_programs()
        for tree in trees:
            self.assertTrue(count(tree) <= 300 and height(tree) <= 20)
            self.check(tree)
        self.assertGreaterEqual(max([count(tree) for tree in trees]), 300)
        self.assertGreaterEqual(max([height(tree) for tree in trees]), 20)
        self.assertEqual(max([len(state[2]) for state in turned(trees[13])[0][7]]), 19)

    def test_what_is_told_stays(self):
        tree = read("(main (x) (let f (fun () (back x))) (hand (call f)))")
        before = copy.deepcopy(tree)
        self.assertEqual(turned(tree), turned(tree))
        self.assertEqual(tree, before)


class RefusalTest(unittest.TestCase):
    def refused(self, error, thing):
        with self.assertRaises(error) as caught:
            turned(thing)
        self.assertIs(type(caught.exception), error)
        return caught.exception

    def test_trees(self):
        for thing in odd_things() + list(TERMS.values()) + list(STATEMENTS.values()):
            self.refused(BadTree, thing)
        self.refused(BadTree, wide_program(301))
        self.refused(BadTree, program(("do", deep_term(19))))
        self.refused(BadTree, program(("do", ("fun", (), (("hand", ONE),)))))
        for deep in (nested(8000, tuple), nested(8000, list), deep_term(8000)):
            self.refused(BadTree, program(("do", deep)))

    def test_names(self):
        self.assertEqual(self.refused(BadName, program(("do", X))).name, "x")
        self.assertEqual(self.refused(BadName, program(EMPTY, EMPTY)).name, "e")
        self.assertEqual(self.refused(BadName, read("(main () (do (fun () (set a b))))")).name, "a")

    def test_trees_ahead_of_names(self):
        self.refused(BadTree, program(("do", X), ("do", 1)))


class EmittingTest(unittest.TestCase):
    scope = ("fun", ("x", "y"), (1,), ("a", "b"))

    def test_places(self):
        for name, place in (("x", ("slot", 0)), ("y", ("box", 1)), ("a", ("taken", 0)), ("b", ("taken", 1))):
            self.assertEqual(place_in(self.scope, name), place)
            self.assertEqual(Emitter(self.scope, []).place(name), place)

    def test_states(self):
        emitter = Emitter(self.scope, [4, 7])
        self.assertEqual((emitter.inner_machine(), emitter.inner_machine()), (4, 7))
        emitter.emit(("number", emitter.middle(1), 5))
        behind = emitter.reserve()
        emitter.close(("go", behind))
        emitter.catches = (("any", ("slot", 0), 0),)
        emitter.begin(behind)
        emitter.close(("back", None))
        self.assertEqual(emitter.states, [((("number", 3, 5),), ("go", 1), ()), ((), ("back", None), emitter.catches)])
        self.assertEqual(emitter.slots, 4)

    def test_terms(self):
        emitter = Emitter(self.scope, [])
        slot = emit_term(emitter, ("two", "-", ("name", "x"), ("step", ("name", "b"), ONE)), 0)
        self.assertEqual(slot, 2)
        emitter.close(("back", slot))
        self.assertEqual(emitter.states, [
            ((("read", 2, ("slot", 0)), ("read", 3, ("taken", 1))), ("step", 3, 3, 1, 2), ()),
            ((("two", 2, "-", 2, 3),), ("back", 2), ()), ((("number", 3, 1),), ("go", 1), ()),
        ])


if __name__ == "__main__":
    unittest.main()
