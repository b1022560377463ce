import copy
import unittest

from samples import (
    DO, ONE, STATEMENTS, TERMS, X, Chance, all_parts, count, deep_term, height, inner, nested, odd_things, program,
    wide_program,
)
from waitloom.errors import BadTree
from waitloom.trees import depth_of, inner_of, is_name, is_number, need_program, size_of


class NamesAndNumbersTest(unittest.TestCase):
    def test_names(self):
        for text in ("a", "z", "x", "any", "main", "abcdefgh", "zzzzzzzz", "aaaaaaaa"):
            self.assertIs(is_name(text), True, text)

    def test_lengths(self):
        for length in range(20):
            self.assertIs(is_name("q" * length), 1 <= length <= 8, length)

    def test_one_other_sign_at_any_place(self):
        others = [chr(k) for k in range(128) if not "a" <= chr(k) <= "z"]
        for length in range(1, 9):
            for place in range(length):
                for sign in others:
                    text = "m" * place + sign + "m" * (length - place - 1)
                    self.assertIs(is_name(text), False, text)

    def test_numbers(self):
        for n in (0, 1, -1, 12, 10 ** 12, -(10 ** 12), 10 ** 12 - 1, 1 - 10 ** 12):
            self.assertIs(is_number(n), True, n)
        for n in (10 ** 12 + 1, -(10 ** 12) - 1, 10 ** 13, -(10 ** 13), 10 ** 5000, 2 ** 64):
            self.assertIs(is_number(n), False, n)

    def test_true_and_false_are_no_numbers(self):
        self.assertIs(is_number(True), False)
        self.assertIs(is_number(False), False)

    def test_anything_may_be_asked(self):
        for thing in odd_things() + [("x",), ["x"], ONE, program()]:
            self.assertIs(is_name(thing), False)
            self.assertIs(is_number(thing), False)
        self.assertIs(is_name(1), False)
        self.assertIs(is_number("1"), False)


class NeedProgramTest(unittest.TestCase):
    def good(self, tree):
        self.assertIsNone(need_program(tree), tree)

    def bad(self, tree):
        with self.assertRaises(BadTree) as caught:
            need_program(tree)
        self.assertIs(type(caught.exception), BadTree)

    def good_term(self, term):
        self.good(program(("do", term)))

    def bad_term(self, term):
        self.bad(program(("do", term)))
        self.bad(program(("do", ("step", X, term))))
        self.bad(program(("do", ("call", X, (ONE, term)))))

    def bad_statement(self, statement):
        self.bad(program(statement))
        self.bad(program(DO, ("if", X, (), (DO, statement))))

    def test_each_part_is_good(self):
        self.good(program())
        for term in TERMS.values():
            self.good_term(term)
        for statement in STATEMENTS.values():
            self.good(program(statement))
        self.good(program(*STATEMENTS.values()))

    def test_whatever_is_handed_in(self):
        for thing in odd_things():
            self.bad(thing)
        for thing in list(TERMS.values()) + list(STATEMENTS.values()):
            self.bad(thing)

    def test_each_thing_of_a_program_wrong(self):
        for thing in odd_things():
            self.bad((thing, (), ()))
            self.bad(("main", (thing,), ()))
            self.bad(("main", (), (thing,)))
            self.bad(("main", thing, ()))
            self.bad(("main", (), thing))
        self.bad(("main", (), (), ()))
        self.bad(("main", ()))
        self.bad(("main", (), (program(),)))
        self.bad(("main", (), (("do", program()),)))

    def test_each_thing_of_a_term_wrong(self):
        for head in TERMS:
            good = TERMS[head]
            for place in range(len(good)):
                for thing in odd_things():
                    self.bad_term(good[:place] + (thing,) + good[place + 1:])
            self.bad_term(good[:-1])
            self.bad_term(good + (ONE,))
            self.bad_term(good + ((),))
            self.bad_term(list(good))

    def test_each_thing_of_a_statement_wrong(self):
        for head in STATEMENTS:
            good = STATEMENTS[head]
            for place in range(len(good)):
                for thing in odd_things():
                    self.bad_statement(good[:place] + (thing,) + good[place + 1:])
            self.bad_statement(good[:-1])
            self.bad_statement(good + (ONE,))
            self.bad_statement(good + ((),))
            self.bad_statement(list(good))

    def test_unknown_words(self):
        for head in ("", "lets", "Let", "main", "call ", "+", "for", "any", "number\n"):
            for good in TERMS.values():
                self.bad_term((head,) + good[1:])
            for good in STATEMENTS.values():
                self.bad_statement((head,) + good[1:])
            if head != "main":
                self.bad((head, (), ()))

    def test_terms_and_statements_in_the_others_place(self):
        for term in TERMS.values():
            self.bad_statement(term)
        for statement in STATEMENTS.values():
            self.bad_term(statement)
        self.bad(("fun", (), ()))
        self.bad(("loop", (), ()))

    def test_lists_in_the_place_of_tuples(self):
        self.bad(["main", (), ()])
        self.bad(("main", [], ()))
        self.bad(("main", (), []))
        self.bad_term(("fun", [], ()))
        self.bad_term(("loop", (), []))
        self.bad_term(("call", X, []))
        self.bad_term(("call", X, [ONE]))
        self.bad_statement(("if", X, [], ()))
        self.bad_statement(("if", X, (), []))
        self.bad_statement(("while", X, []))
        for place in (1, 4, 5):
            good = ("try", (), "any", "x", (), ())
            self.bad_statement(good[:place] + ([],) + good[place + 1:])

    def test_numbers(self):
        for n in (0, -1, 10 ** 12, -(10 ** 12)):
            self.good_term(("number", n))
        for n in (10 ** 12 + 1, -(10 ** 12) - 1, True, False, None, "1", 1.0):
            self.bad_term(("number", n))

    def test_signs(self):
        for sign in "+-*<=":
            self.good_term(("two", sign, ONE, X))
        for sign in ("", "/", ">", "<=", "+-", "+-*<=", "and", "x", 1, None, ("+",), ["+"]):
            self.bad_term(("two", sign, ONE, X))

    def test_words_of_faults_and_catchers(self):
        self.good(program(("fault", "deep", ONE)))
        self.good(program(("try", (), "deep", "any", (), ())))
        self.good(program(("try", (), "any", "x", (), ())))
        self.bad_statement(("fault", "any", ONE))
        for word in ("", "ninetyone", "A", "x1", 1, None, ("x",)):
            self.bad_statement(("fault", word, ONE))
            self.bad_statement(("try", (), word, "x", (), ()))
            self.bad_statement(("try", (), "x", word, (), ()))

    def test_names(self):
        for names in ((), ("a",), ("a", "b", "c", "d"), ("any", "main", "fun")):
            self.good(("main", names, ()))
            self.good_term(("fun", names, ()))
            self.good_term(("loop", names, ()))
        for names in (("a", "a"), ("a", "b", "c", "a"), tuple("abcde"), ("a", ""), ("a", "ninetyone"), ("A",), ("a", 1),
                      ("a", ["a"]), "a", "ab", None):
            self.bad(("main", names, ()))
            self.bad_term(("fun", names, ()))
            self.bad_term(("loop", names, ()))

    def test_terms_of_a_call(self):
        for k in range(5):
            self.good_term(("call", X, (ONE,) * k))
        self.bad_term(("call", X, (ONE,) * 5))
        self.bad_term(("call", X, ONE))
        self.bad_term(("call", X))

    def test_statements_of_each_body(self):
        def bodies(body):
            return [
                ("main", (), body), program(("do", ("fun", (), body))), program(("do", ("loop", (), body))),
                program(("if", X, body, ())), program(("if", X, (), body)), program(("while", X, body)),
                program(("try", body, "any", "x", (), ())), program(("try", (), "any", "x", body, ())),
                program(("try", (), "any", "x", (), body)),
            ]
        for tree in bodies(()) + bodies((DO,)) + bodies((DO,) * 12):
            self.good(tree)
        for tree in bodies((DO,) * 13) + bodies(DO) + bodies((DO, ONE)) + bodies((DO, ())):
            self.bad(tree)


class HandsTest(unittest.TestCase):
    hand = ("hand", ONE)

    def places(self, hand):
        """Bodies in which a hand stands, by itself and within other statements."""
        return [
            (hand,), (DO, hand), (("if", X, (hand,), ()),), (("if", X, (), (hand,)),), (("while", X, (hand,)),),
            (("try", (hand,), "any", "x", (), ()),), (("try", (), "any", "x", (hand,), ()),),
            (("try", (), "any", "x", (), (hand,)),), (("while", X, (("if", X, (), (DO, hand)),)),),
        ]

    def test_in_a_program_and_a_loop(self):
        for body in self.places(self.hand):
            self.assertIsNone(need_program(("main", (), body)))
            self.assertIsNone(need_program(program(("do", ("loop", (), body)))))

    def test_never_in_a_fun(self):
        for body in self.places(self.hand):
            fun = ("fun", (), body)
            for tree in (program(("do", fun)), program(("do", ("loop", (), (("let", "x", fun),)))),
                         program(("while", X, (("hand", fun),)))):
                with self.assertRaises(BadTree):
                    need_program(tree)

    def test_in_a_loop_within_a_fun(self):
        for body in self.places(self.hand):
            loop = ("loop", (), body)
            for outer in self.places(("do", loop)):
                self.assertIsNone(need_program(program(("do", ("fun", (), outer)))))

    def test_behind_a_loop_within_a_fun(self):
        fun = ("fun", (), (("do", ("loop", (), (self.hand,))), self.hand))
        with self.assertRaises(BadTree):
            need_program(program(("do", fun)))

    def test_in_a_program_behind_a_fun(self):
        self.assertIsNone(need_program(program(("do", ("fun", (), ())), self.hand)))


class BoundsTest(unittest.TestCase):
    def test_parts(self):
        for size in (1, 2, 50, 299, 300):
            tree = wide_program(size)
            self.assertEqual(count(tree), size)
            self.assertIsNone(need_program(tree))
        for size in (301, 302, 350):
            tree = wide_program(size)
            self.assertEqual(count(tree), size)
            with self.assertRaises(BadTree):
                need_program(tree)

    def test_depth_of_terms(self):
        self.assertIsNone(need_program(program(("do", deep_term(18)))))
        for depth in (19, 20, 25, 1000, 20000):
            with self.assertRaises(BadTree):
                need_program(program(("do", deep_term(depth))))

    def test_depth_of_statements(self):
        def loops(depth):
            body = ()
            for k in range(depth):
                body = (("try", (), "any", "x", (), body),)
            return ("main", (), body)
        self.assertIsNone(need_program(loops(19)))
        for depth in (20, 21, 5000):
            with self.assertRaises(BadTree):
                need_program(loops(depth))

    def test_depth_of_functions(self):
        def funs(depth):
            term = ONE
            for k in range(depth):
                term = ("fun", (), (("back", term),)) if k % 2 else ("loop", (), (("hand", term),))
            return program(("do", term))
        self.assertEqual(height(funs(8)), 19)
        self.assertIsNone(need_program(funs(8)))
        for depth in (9, 10, 5000):
            with self.assertRaises(BadTree):
                need_program(funs(depth))

    def test_the_same_part_many_times(self):
        term = ONE
        for k in range(18):
            term = ("two", "+", term, term)
        with self.assertRaises(BadTree):
            need_program(program(("do", term)))
        for k in range(5000):
            term = ("two", "+", term, term)
        with self.assertRaises(BadTree):
            need_program(program(("do", term)))

    def test_deep_things_at_every_place(self):
        for deep in (nested(8000, tuple), nested(8000, list), deep_term(8000)):
            for good in list(STATEMENTS.values()) + [("do", term) for term in TERMS.values()]:
                for place in range(len(good)):
                    with self.assertRaises(BadTree):
                        need_program(program(good[:place] + (deep,) + good[place + 1:]))
            for tree in ((deep, (), ()), ("main", deep, ()), ("main", (), deep), ("main", (deep,), ()), (deep,)):
                with self.assertRaises(BadTree):
                    need_program(tree)


class PartsTest(unittest.TestCase):
    def test_inner_of_each_part(self):
        two = ("number", 2)
        other = ("set", "y", two)
        told = [
            (("number", 1), []), (("name", "x"), []), (("two", "-", ONE, X), [ONE, X]),
            (("fun", ("x",), (DO, other)), [DO, other]), (("loop", ("x",), (other, DO)), [other, DO]),
            (("fun", (), ()), []), (("call", X, ()), [X]), (("call", X, (two, ONE)), [X, two, ONE]),
            (("step", two, X), [two, X]), (("let", "x", X), [X]), (("set", "x", two), [two]), (("do", two), [two]),
            (("if", X, (DO, other), (other,)), [X, DO, other, other]), (("if", X, (), ()), [X]),
            (("while", X, (other, DO)), [X, other, DO]), (("hand", X), [X]), (("back", X), [X]),
            (("fault", "oh", X), [X]), (("try", (DO, other), "any", "x", (other,), (DO,)), [DO, other, other, DO]),
            (("try", (), "any", "x", (), ()), []), (program(DO, other), [DO, other]), (("main", ("x",), ()), []),
        ]
        for part, expected in told:
            self.assertEqual(inner_of(part), expected)
            self.assertIsInstance(inner_of(part), list)

    def test_sizes_and_depths(self):
        told = [
            (ONE, 1, 1), (X, 1, 1), (program(), 1, 1), (("fun", ("x",), ()), 1, 1), (DO, 2, 2),
            (("two", "+", ONE, ("two", "*", ONE, X)), 5, 3), (("call", X, (ONE, ONE, ONE, ONE)), 6, 2),
            (("try", (), "any", "x", (), ()), 1, 1), (("try", (DO,), "any", "x", (DO, DO), (DO,)), 9, 3),
            (("if", X, (DO,), ()), 4, 3), (program(("let", "x", ("fun", (), (("back", ONE),)))), 5, 5),
        ]
        for part, size, depth in told:
            self.assertEqual((size_of(part), depth_of(part)), (size, depth), part)

    def test_each_part_of_chance_programs(self):
        chance = Chance(1)
        for k in range(60):
            tree = chance.program()
            self.assertIsNone(need_program(tree))
            for part in all_parts(tree):
                self.assertEqual(inner_of(part), inner(part))
                self.assertEqual(size_of(part), count(part))
                self.assertEqual(depth_of(part), height(part))

    def test_beyond_the_bounds(self):
        self.assertEqual(size_of(wide_program(400)), 400)
        self.assertEqual(depth_of(deep_term(30)), 30)
        self.assertEqual(inner_of(("call", X, (ONE,) * 6)), [X] + [ONE] * 6)
        self.assertEqual(inner_of(("main", tuple("abcdef"), (DO,) * 15)), [DO] * 15)

    def test_some_thousands_deep(self):
        self.assertEqual(depth_of(deep_term(20000)), 20000)
        self.assertEqual(size_of(deep_term(20000)), 39999)

    def test_what_is_told_is_the_askers_own(self):
        for part in [program(DO, DO)] + list(TERMS.values()) + list(STATEMENTS.values()):
            before = copy.deepcopy(part)
            told = inner_of(part)
            kept = list(told)
            told.append(None)
            told.reverse()
            self.assertEqual(inner_of(part), kept)
            self.assertEqual(size_of(part), count(before))
            self.assertEqual(depth_of(part), height(before))
            self.assertEqual(part, before)

    def test_nothing_handed_in_is_changed(self):
        names = ["x"]
        wrong = ("main", names, ([],))
        with self.assertRaises(BadTree):
            need_program(wrong)
        self.assertEqual(wrong, ("main", ["x"], ([],)))


if __name__ == "__main__":
    unittest.main()
