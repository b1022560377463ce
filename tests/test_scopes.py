import copy
import unittest

from samples import (
    DO, ONE, STATEMENTS, TERMS, X, Chance, Weaver, brought, deep_term, inner, nested, odd_things, program, wide_program,
)
from waitloom.errors import BadName, BadTree
from waitloom.reading import read
from waitloom.scopes import functions_of, scopes_of


def functions_by_walk(part, outer, found):
    """The functions of a program, by a plain walk that owes nothing to the program."""
    if part[0] in ("main", "fun", "loop"):
        found.append((part[0], part[1], part[2], outer))
        outer = len(found) - 1
    for one in inner(part):
        functions_by_walk(one, outer, found)
    return found


def uses_by_walk(part):
    """The names read or set in a part, but for functions within."""
    found = [part[1]] if part[0] in ("name", "set") else []
    if part[0] not in ("fun", "loop"):
        for one in inner(part):
            found.extend(uses_by_walk(one))
    return found


def scopes_by_walk(tree):
    """What scopes_of should tell, or the name that it should refuse."""
    functions = functions_by_walk(tree, None, [])
    names = [list(one[1]) + brought(one[2]) for one in functions]
    uses = [[name for one in function[2] for name in uses_by_walk(one)] for function in functions]

    def chain(number):
        return [] if number is None else [number] + chain(functions[number][3])

    owners = []
    for number in range(len(functions)):
        twice = [name for place, name in enumerate(names[number]) if name in names[number][:place]]
        unknown = [name for name in uses[number] if not any([name in names[k] for k in chain(number)])]
        if twice + unknown:
            return (twice + unknown)[0]
        owners.append({name: [k for k in chain(number) if name in names[k]][0] for name in uses[number]})
    told = []
    for number, function in enumerate(functions):
        taken = set()
        boxed = set()
        for other, owned in enumerate(owners):
            for name, owner in owned.items():
                if number in chain(other) and owner in chain(function[3]):
                    taken.add(name)
                if owner == number and other != number:
                    boxed.add(names[number].index(name))
        told.append((function[0], tuple(names[number]), tuple(sorted(boxed)), tuple(sorted(taken))))
    return told


class ScopesTest(unittest.TestCase):
    def refused(self, text, name):
        with self.assertRaises(BadName, msg=text) as caught:
            scopes_of(read(text))
        self.assertIs(type(caught.exception), BadName)
        self.assertEqual(caught.exception.name, name, text)

    def tells(self, text, *expected):
        self.assertEqual(scopes_of(read(text)), list(expected), text)


class FunctionsTest(unittest.TestCase):
    def kinds(self, text, *expected):
        """The kind, the parameters and the round of each function."""
        told = functions_of(read(text))
        self.assertIsInstance(told, list)
        self.assertEqual([(kind, names, outer) for kind, names, body, outer in told], list(expected), text)

    def test_the_program_alone(self):
        self.assertEqual(functions_of(program()), [("main", (), (), None)])
        tree = ("main", ("x", "y"), (DO, ("hand", X)))
        self.assertEqual(functions_of(tree), [("main", ("x", "y"), (DO, ("hand", X)), None)])

    def test_kind_parameters_body_and_round(self):
        leaf = ("loop", ("b", "c"), (("hand", ONE),))
        fun = ("fun", ("a",), (("back", leaf), DO))
        tree = ("main", (), (("let", "x", fun), ("do", leaf)))
        self.assertEqual(functions_of(tree), [
            ("main", (), tree[2], None), ("fun", ("a",), fun[2], 0), ("loop", ("b", "c"), leaf[2], 1),
            ("loop", ("b", "c"), leaf[2], 0),
        ])

    def test_within_one_another(self):
        self.kinds("(main () (do (fun (a) (do (loop (b) (do (fun (c))))) (do (fun (d))))) (do (loop (e))))",
                   ("main", (), None), ("fun", ("a",), 0), ("loop", ("b",), 1), ("fun", ("c",), 2), ("fun", ("d",), 1),
                   ("loop", ("e",), 0))

    def test_in_terms(self):
        self.kinds("(main () (do (call (fun (a)) (fun (b)) (+ (fun (c)) (loop (d))) (call (fun (e)) (fun (f))))))",
                   ("main", (), None), ("fun", ("a",), 0), ("fun", ("b",), 0), ("fun", ("c",), 0), ("loop", ("d",), 0),
                   ("fun", ("e",), 0), ("fun", ("f",), 0))
        self.kinds("(main () (do (step (loop (a)) (fun (b)))) (hand (fun (c))) (back (fun (d))) (fault oh (fun (e))))",
                   ("main", (), None), ("loop", ("a",), 0), ("fun", ("b",), 0), ("fun", ("c",), 0), ("fun", ("d",), 0),
                   ("fun", ("e",), 0))

    def test_in_tests_and_bodies(self):
        self.kinds("(main () (if (fun (a)) ((do (fun (b)))) ((do (fun (c))))) (while (fun (d)) ((do (fun (e))))))",
                   ("main", (), None), ("fun", ("a",), 0), ("fun", ("b",), 0), ("fun", ("c",), 0), ("fun", ("d",), 0),
                   ("fun", ("e",), 0))

    def test_in_each_body_of_a_try(self):
        self.kinds("(main () (try ((do (fun (a)))) any e ((do (loop (b)))) ((do (fun (c))))) (set e (fun (d))))",
                   ("main", (), None), ("fun", ("a",), 0), ("loop", ("b",), 0), ("fun", ("c",), 0), ("fun", ("d",), 0))

    def test_names_are_not_asked(self):
        self.kinds("(main (x) (let x y) (set z (fun (y) (let y w))))", ("main", ("x",), None), ("fun", ("y",), 0))

    def test_chance_programs(self):
        chance = Chance(21)
        for k in range(200):
            tree = chance.program()
            self.assertEqual(functions_of(tree), functions_by_walk(tree, None, []))

    def test_as_many_as_may_be(self):
        tree = program(*[("if", ("fun", (), ()), (("do", ("loop", (), ())),) * 12, (("do", ("fun", (), ())),) * 11)
                         for k in range(6)])
        self.assertEqual(len(functions_of(tree)), 1 + 6 * 24)
        self.assertEqual(functions_of(tree), functions_by_walk(tree, None, []))

    def test_what_is_told_is_the_askers_own(self):
        tree = read("(main (x) (let f (fun (y) (back (+ x y)))))")
        before = copy.deepcopy(tree)
        told = functions_of(tree)
        kept = list(told)
        told.append(None)
        told.reverse()
        self.assertEqual(functions_of(tree), kept)
        self.assertEqual(tree, before)


class NamesTest(ScopesTest):
    def test_parameters_and_lets(self):
        self.tells("(main ())", ("main", (), (), ()))
        self.tells("(main (x y))", ("main", ("x", "y"), (), ()))
        self.tells("(main (z a) (let y 1) (let b 2))", ("main", ("z", "a", "y", "b"), (), ()))

    def test_lets_within_statements(self):
        self.tells("(main () (if 1 ((let d 1)) ((let c 1))) (while 0 ((let b 1))) (let a 1))",
                   ("main", ("d", "c", "b", "a"), (), ()))

    def test_tries(self):
        self.tells("(main () (try ((let c 1)) any x ((let b 1)) ((let a 1))) (let z 1))",
                   ("main", ("c", "x", "b", "a", "z"), (), ()))
        self.tells("(main () (try ((try () oh d () ()) (let c 1)) any x ((try () oh b ((let y 1)) ())) ()))",
                   ("main", ("d", "c", "x", "b", "y"), (), ()))

    def test_a_let_in_a_function_within(self):
        self.tells("(main () (let f (fun (a) (let b 1) (try () any c () ()))) (do (loop (d) (let e 1))))",
                   ("main", ("f",), (), ()), ("fun", ("a", "b", "c"), (), ()), ("loop", ("d", "e"), (), ()))
        self.refused("(main () (do (fun () (let x 1))) (do x))", "x")
        self.refused("(main () (do (fun (x))) (do x))", "x")

    def test_set_brings_nothing(self):
        self.refused("(main () (set x 1))", "x")
        self.tells("(main () (set x 1) (let x 1))", ("main", ("x",), (), ()))

    def test_a_name_that_a_later_let_brings(self):
        self.tells("(main () (do x) (let x 1))", ("main", ("x",), (), ()))
        self.tells("(main () (let x x))", ("main", ("x",), (), ()))
        self.tells("(main () (do (fun () (back x))) (let x 1))", ("main", ("x",), (0,), ()), ("fun", (), (), ("x",)))
        self.tells("(main () (do x) (try () any x () ()))", ("main", ("x",), (), ()))

    def test_twice(self):
        self.refused("(main (x) (let x 1))", "x")
        self.refused("(main (x y) (let y 1) (let x 1))", "y")
        self.refused("(main () (let x 1) (let y 1) (let y 2) (let x 2))", "y")
        self.refused("(main () (if 1 ((let x 1)) ((let x 1))))", "x")
        self.refused("(main () (while 1 ((let x 1))) (let x 1))", "x")
        self.refused("(main (e) (try () any e () ()))", "e")
        self.refused("(main () (try () any e () ()) (try () any e () ()))", "e")
        self.refused("(main () (do (fun (x) (let x 1))))", "x")
        self.refused("(main () (do (loop (x) (try () oh x () ()))))", "x")

    def test_twice_in_the_order_of_a_try(self):
        self.refused("(main () (try ((let x 1) (let y 1)) any x ((let y 1)) ()))", "x")
        self.refused("(main () (try ((let y 1)) any x ((let y 1)) ((let x 1))))", "y")
        self.refused("(main () (try () any x () ((let x 1))))", "x")

    def test_not_twice(self):
        self.tells("(main (x) (do (fun (x) (back x))) (do (loop () (let x 1))))",
                   ("main", ("x",), (), ()), ("fun", ("x",), (), ()), ("loop", ("x",), (), ()))

    def test_a_name_that_none_has(self):
        for text in ("(do x)", "(set x 1)", "(let y x)", "(hand x)", "(back x)", "(fault oh x)", "(if x () ())",
                     "(if 1 ((do x)) ())", "(if 1 () ((do x)))", "(while x ())", "(while 1 ((do x)))", "(do (+ 1 x))",
                     "(do (call x))", "(do (call 1 2 x))", "(do (step x 1))", "(do (step 1 x))",
                     "(try ((do x)) any e () ())", "(try () any e ((do x)) ())", "(try () any e () ((do x)))",
                     "(do (fun (y) (back x)))", "(do (loop (y) (hand x)))"):
            self.refused("(main () " + text + ")", "x")
        self.refused("(main () (try ((do any)) any e () ()))", "any")

    def test_a_name_of_a_neighbour(self):
        self.refused("(main () (let f (fun (x))) (do (fun () (back x))))", "x")
        self.refused("(main () (do (fun (x) (do (fun (y))) (back y))))", "y")

    def test_the_first_as_they_stand(self):
        self.refused("(main () (do (+ a b)))", "a")
        self.refused("(main () (set b a))", "b")
        self.refused("(main () (let x a) (set b 1))", "a")
        self.refused("(main () (do (call (call c d) b a)))", "c")
        self.refused("(main () (do (step b a)))", "b")
        self.refused("(main () (try ((do c)) any x ((do b)) ((do a))))", "c")
        self.refused("(main () (if b ((do a)) ()))", "b")

    def test_own_body_ahead_of_functions_within(self):
        self.refused("(main () (do (fun () (back a))) (do b))", "b")
        self.refused("(main () (do (fun (x) (let x 1))) (do b))", "b")
        self.refused("(main () (do (fun () (do (fun () (do c))) (do b))) (do (fun (y) (let y 1))))", "b")

    def test_twice_ahead_of_none(self):
        self.refused("(main () (do a) (let b 1) (let b 1))", "b")
        self.refused("(main () (do (fun () (do a) (let b 1) (let b 2))))", "b")

    def test_function_by_function(self):
        self.refused("(main () (do (fun () (do a))) (do (fun (b) (let b 1))))", "a")
        self.refused("(main () (do (fun (b) (let b 1))) (do (fun () (do a))))", "b")
        self.refused("(main () (do (fun () (do (loop (c) (let c 1))) (do 1))) (do (fun () (do a))))", "c")
        self.refused("(main () (do (fun (z) (do (loop () (do c))) (let z 1))))", "z")

    def test_a_name_told_twice_round_one_that_reads_it(self):
        self.refused("(main (x) (do (fun () (back x))) (let x 1))", "x")


class TakenTest(ScopesTest):
    def test_right_from_the_one_round_it(self):
        self.tells("(main (x y) (do (fun () (back y))))", ("main", ("x", "y"), (1,), ()), ("fun", (), (), ("y",)))
        self.tells("(main (x) (do (loop () (set x 1))))", ("main", ("x",), (0,), ()), ("loop", (), (), ("x",)))

    def test_from_further_out_through_others(self):
        self.tells("(main (x) (do (fun (y) (do (loop (z) (do (fun () (back x))))))))",
                   ("main", ("x",), (0,), ()), ("fun", ("y",), (), ("x",)), ("loop", ("z",), (), ("x",)),
                   ("fun", (), (), ("x",)))

    def test_names_of_all_round_it(self):
        self.tells("(main (a) (do (fun (b) (do (fun (c) (back (+ a (+ b c))))))))",
                   ("main", ("a",), (0,), ()), ("fun", ("b",), (0,), ("a",)), ("fun", ("c",), (), ("a", "b")))

    def test_inner_names_like_outer_ones(self):
        self.tells("(main (x) (do (fun (x) (do (fun () (back x))))) (do x))",
                   ("main", ("x",), (), ()), ("fun", ("x",), (0,), ()), ("fun", (), (), ("x",)))
        self.tells("(main (x) (do (fun () (do (fun (x) (back x))))))",
                   ("main", ("x",), (), ()), ("fun", (), (), ()), ("fun", ("x",), (), ()))
        self.tells("(main (x) (do (fun () (do (fun (x) (back x))) (back x))))",
                   ("main", ("x",), (0,), ()), ("fun", (), (), ("x",)), ("fun", ("x",), (), ()))
        self.tells("(main (x) (do (fun () (back x) (let x 1))))", ("main", ("x",), (), ()), ("fun", ("x",), (), ()))

    def test_a_let_of_the_one_round_it(self):
        self.tells("(main () (let f (fun (n) (back (call f n)))))", ("main", ("f",), (0,), ()), ("fun", ("n",), (), ("f",)))
        self.tells("(main () (try () any e ((do (fun () (set e 1)))) ()))",
                   ("main", ("e",), (0,), ()), ("fun", (), (), ("e",)))

    def test_in_the_order_of_texts(self):
        self.tells("(main (c bb a b) (do (fun () (do c) (do a) (do bb) (do b) (do c))))",
                   ("main", ("c", "bb", "a", "b"), (0, 1, 2, 3), ()), ("fun", (), (), ("a", "b", "bb", "c")))

    def test_boxed_as_rising_numbers(self):
        self.tells("(main (a b c d) (do (fun () (back d))) (let e 1) (do (fun () (back (+ e b)))))",
                   ("main", ("a", "b", "c", "d", "e"), (1, 3, 4), ()), ("fun", (), (), ("d",)), ("fun", (), (), ("b", "e")))

    def test_own_use_boxes_nothing(self):
        self.tells("(main (x) (set x (+ x 1)) (do (fun () (back 1))))", ("main", ("x",), (), ()), ("fun", (), (), ()))

    def test_kinds_are_tuples(self):
        for kind, names, boxed, taken in scopes_of(read("(main (x) (let f (fun () (back x))))")):
            self.assertIsInstance(names, tuple)
            self.assertIsInstance(boxed, tuple)
            self.assertIsInstance(taken, tuple)

    def test_chance_programs(self):
        chance = Chance(22)
        refused = 0
        for k in range(1500):
            tree = chance.program()
            expected = scopes_by_walk(tree)
            if isinstance(expected, str):
                refused += 1
                with self.assertRaises(BadName) as caught:
                    scopes_of(tree)
                self.assertEqual(caught.exception.name, expected)
            else:
                self.assertEqual(scopes_of(tree), expected)
        self.assertTrue(200 < refused < 1450, refused)

    def test_woven_programs(self):
        for seed in range(100):
            tree = Weaver(seed).program()
            self.assertEqual(scopes_of(tree), scopes_by_walk(tree))

    def test_what_is_told_is_the_askers_own(self):
        tree = read("(main (x) (let f (fun (y) (back (+ x y)))))")
        before = copy.deepcopy(tree)
        told = scopes_of(tree)
        kept = list(told)
        told.append(None)
        told.reverse()
        self.assertEqual(scopes_of(tree), kept)
        self.assertEqual(tree, before)


class RefusalTest(unittest.TestCase):
    def bad(self, thing):
        for asked in (functions_of, scopes_of):
            with self.assertRaises(BadTree) as caught:
                asked(thing)
            self.assertIs(type(caught.exception), BadTree)

    def test_whatever_is_handed_in(self):
        for thing in odd_things() + list(TERMS.values()):
            self.bad(thing)
            self.bad(program(thing))
            self.bad(program(("let", "x", thing[:0] if isinstance(thing, tuple) else thing)))
        for thing in STATEMENTS.values():
            self.bad(thing)

    def test_beyond_the_bounds(self):
        self.bad(wide_program(301))
        self.bad(program(("do", deep_term(19))))
        self.bad(program(("do", ("fun", (), (("hand", ONE),)))))
        self.bad(program(("do", ("fun", ("x", "x"), ()))))

    def test_some_thousands_deep(self):
        for deep in (nested(8000, tuple), nested(8000, list), deep_term(8000)):
            self.bad(deep)
            self.bad(program(deep))
            self.bad(program(("do", deep)))

    def test_bad_tree_ahead_of_bad_name(self):
        self.bad(program(("do", X), ("do", 1)))
        self.bad(program(("let", "x", ONE), ("let", "x", ONE), ("hand", ONE, ONE)))
        self.bad(program(("do", X), ("do", ("fun", (), (("hand", ONE),)))))
        self.bad(program(("do", X), ("do", deep_term(19))))

    def test_as_deep_as_may_be(self):
        term = X
        for k in range(8):
            term = ("fun", (), (("back", term),))
        told = scopes_of(("main", ("x",), (("do", term),)))
        self.assertEqual(told, [("main", ("x",), (0,), ())] + [("fun", (), (), ("x",))] * 8)


if __name__ == "__main__":
    unittest.main()
