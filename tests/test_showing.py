import random
import unittest

from samples import (
    DO, EMPTY, ONE, STATEMENTS, TERMS, X, Chance, count, deep_term, nested, odd_things, program, wide_program, written,
)
from waitloom.errors import BadText, BadTree
from waitloom.reading import read
from waitloom.showing import shown
from waitloom.words import words_of



def long_program(length):
    """A program whose text has that many signs, from 3,200 to 6,900: its names are as long as need be."""
    def tree(more):
        rows = []
        for k in range(140):
            names = []
            for letter in "abcd":
                names.append(letter * (1 + min(more, 7)))
                more -= min(more, 7)
            rows.append(("do", ("fun", tuple(names), ())))
        return program(*[("if", ONE, tuple(rows[k:k + 12]), tuple(rows[k + 12:k + 24])) for k in range(0, 140, 24)])
    return tree(length - len(written(tree(0))))


class FormsTest(unittest.TestCase):
    def shows(self, tree, text):
        self.assertEqual(shown(tree), text)
        self.assertEqual(read(text), tree)

    def shows_term(self, term, text):
        self.shows(program(("do", term)), "(main () (do " + text + "))")

    def shows_statement(self, statement, text):
        self.shows(program(statement), "(main () " + text + ")")

    def test_programs(self):
        self.shows(("main", (), ()), "(main ())")
        self.shows(("main", ("x",), ()), "(main (x))")
        self.shows(("main", ("a", "b", "c", "d"), (DO,)), "(main (a b c d) (do 1))")
        self.shows(program(DO, ("do", X)), "(main () (do 1) (do x))")

    def test_numbers(self):
        for n in (0, 1, -1, 12, -12, 10 ** 12, -(10 ** 12), 10 ** 12 - 1, 1 - 10 ** 12):
            self.shows_term(("number", n), str(n))

    def test_terms(self):
        self.shows_term(X, "x")
        for sign in "+-*<=":
            self.shows_term(("two", sign, ONE, X), "(" + sign + " 1 x)")
        self.shows_term(("fun", (), ()), "(fun ())")
        self.shows_term(("fun", ("x", "y"), (DO, ("do", X))), "(fun (x y) (do 1) (do x))")
        self.shows_term(("loop", (), ()), "(loop ())")
        self.shows_term(("loop", ("x",), (("hand", ONE), DO)), "(loop (x) (hand 1) (do 1))")
        self.shows_term(("call", X, ()), "(call x)")
        self.shows_term(("call", ("call", X, (ONE,)), (ONE, X, ONE, X)), "(call (call x 1) 1 x 1 x)")
        self.shows_term(("step", X, ONE), "(step x 1)")

    def test_statements(self):
        self.shows_statement(("let", "x", ONE), "(let x 1)")
        self.shows_statement(("set", "x", ONE), "(set x 1)")
        self.shows_statement(DO, "(do 1)")
        self.shows_statement(("if", X, (), ()), "(if x () ())")
        self.shows_statement(("if", X, (DO,), (("do", X), DO)), "(if x ((do 1)) ((do x) (do 1)))")
        self.shows_statement(("while", X, ()), "(while x ())")
        self.shows_statement(("while", X, (DO, ("do", X))), "(while x ((do 1) (do x)))")
        self.shows_statement(("hand", X), "(hand x)")
        self.shows_statement(("back", X), "(back x)")
        self.shows_statement(("fault", "oh", X), "(fault oh x)")
        self.shows_statement(EMPTY, "(try () any e () ())")
        self.shows_statement(("try", (DO,), "oh", "any", (("do", X),), (DO, DO)),
                             "(try ((do 1)) oh any ((do x)) ((do 1) (do 1)))")

    def test_names_that_look_like_words_of_the_language(self):
        for word in ("main", "fun", "call", "let", "if", "any", "number", "name", "two", "term", "body", "names"):
            self.shows_term(("name", word), word)
            self.shows_term(("call", ("name", word), (("name", word),)), "(call " + word + " " + word + ")")
            self.shows_statement(("let", word, ("name", word)), "(let " + word + " " + word + ")")
            self.shows(("main", (word,), (("do", ("name", word)),)), "(main (" + word + ") (do " + word + "))")

    def test_each_sample_part(self):
        for term in TERMS.values():
            self.shows_term(term, written(term))
        for statement in STATEMENTS.values():
            self.shows_statement(statement, written(statement))

    def test_chance_programs(self):
        chance = Chance(11)
        for k in range(300):
            tree = chance.program()
            self.shows(tree, written(tree))

    def test_one_blank_between_words(self):
        dice = random.Random(12)
        chance = Chance(13)
        for k in range(60):
            tree = chance.program()
            text = written(tree)
            loose = ""
            for word in words_of(text):
                loose += dice.choice((" ", "\n", "  ", " \n\n ")) + word
            if len(loose) <= 6000:
                self.assertEqual(shown(read(loose)), text)

    def test_as_deep_and_wide_as_may_be(self):
        for tree in (program(("do", deep_term(18))), wide_program(300)):
            self.shows(tree, written(tree))


class LengthTest(unittest.TestCase):
    def test_what_can_be_read(self):
        for length in (3200, 5000, 5998, 5999, 6000):
            tree = long_program(length)
            self.assertEqual(len(shown(tree)), length)
            self.assertEqual(shown(tree), written(tree))
            self.assertEqual(read(shown(tree)), tree)

    def test_what_is_too_long_is_shown_but_not_read(self):
        for length in (6001, 6002, 6500, 6900):
            tree = long_program(length)
            self.assertLessEqual(count(tree), 300)
            self.assertEqual(len(shown(tree)), length)
            self.assertEqual(shown(tree), written(tree))
            with self.assertRaises(BadText):
                read(shown(tree))


class RefusalTest(unittest.TestCase):
    def bad(self, thing):
        with self.assertRaises(BadTree) as caught:
            shown(thing)
        self.assertIs(type(caught.exception), BadTree)

    def test_whatever_is_handed_in(self):
        for thing in odd_things() + list(TERMS.values()):
            self.bad(thing)
            self.bad(program(thing))
            self.bad(program(("do", (thing,))))
            self.bad(("main", (thing,), ()))
        for thing in STATEMENTS.values():
            self.bad(thing)
            self.bad([program(thing)])

    def test_beyond_the_bounds(self):
        self.bad(wide_program(301))
        self.bad(program(("do", deep_term(19))))
        self.bad(program(("do", ("number", 10 ** 12 + 1))))
        self.bad(program(("do", ("fun", (), (("hand", ONE),)))))

    def test_some_thousands_deep(self):
        for deep in (nested(8000, tuple), nested(8000, list), deep_term(8000)):
            self.bad(deep)
            self.bad(program(deep))
            self.bad(program(("do", deep)))

    def test_the_program_stays_as_it_was(self):
        tree = program(*STATEMENTS.values())
        before = program(*[tuple(list(one)) for one in STATEMENTS.values()])
        self.assertEqual(shown(tree), shown(tree))
        self.assertEqual(tree, before)


if __name__ == "__main__":
    unittest.main()
