import random
import unittest

from samples import DO, ONE, STATEMENTS, TERMS, X, Chance, deep_term, nested, odd_things, program, wide_program, written
from waitloom.errors import BadText
from waitloom.reading import read
from waitloom.trees import need_program
from waitloom.words import words_of

SAMPLE = (
    "(main (x y) (let z (+ 1 x)) (set z (* z -12)) (do (call (fun (a b) (back (- a b))) x 2)) "
    "(if (< x y) ((hand z)) ((back 0))) (while (= x 3) ((let w (loop () (hand 7) (hand 8))))) "
    "(fault oh 5) (try ((do (step w 0))) any e ((hand e)) ((hand 1) (hand 2))))"
)


class ReadingTest(unittest.TestCase):
    def bad(self, text):
        with self.assertRaises(BadText, msg=text) as caught:
            read(text)
        self.assertIs(type(caught.exception), BadText)

    def good(self, text, tree):
        self.assertEqual(read(text), tree, text)
        self.assertIsNone(need_program(read(text)))

    def good_term(self, text, term):
        self.good("(main () (do " + text + "))", program(("do", term)))

    def bad_term(self, text):
        self.bad("(main () (do " + text + "))")
        self.bad("(main () (do (call x 1 " + text + ")))")
        self.bad("(main () (do (+ " + text + " 1)))")

    def good_statement(self, text, statement):
        self.good("(main () " + text + ")", program(statement))

    def bad_statement(self, text):
        self.bad("(main () " + text + ")")
        self.bad("(main () (if x () ((do 1) " + text + ")))")

    def whole(self, text):
        """Read what may be a program or not: a program, or None."""
        try:
            tree = read(text)
        except BadText:
            return None
        self.assertIsNone(need_program(tree))
        return tree


class FormsTest(ReadingTest):
    def test_programs(self):
        self.good("(main ())", ("main", (), ()))
        self.good("(main (x))", ("main", ("x",), ()))
        self.good("(main (a b c d) (do 1))", ("main", ("a", "b", "c", "d"), (DO,)))
        self.good("(main () (do 1) (do x))", program(DO, ("do", X)))

    def test_terms(self):
        self.good_term("12", ("number", 12))
        self.good_term("-12", ("number", -12))
        self.good_term("x", X)
        for sign in "+-*<=":
            self.good_term("(" + sign + " 1 x)", ("two", sign, ONE, X))
        self.good_term("(fun () )", ("fun", (), ()))
        self.good_term("(fun (x y) (do 1) (do x))", ("fun", ("x", "y"), (DO, ("do", X))))
        self.good_term("(loop () )", ("loop", (), ()))
        self.good_term("(loop (x) (hand 1) (do 1))", ("loop", ("x",), (("hand", ONE), DO)))
        self.good_term("(call x)", ("call", X, ()))
        self.good_term("(call x 1)", ("call", X, (ONE,)))
        self.good_term("(call (call x 1) 1 x 1 x)", ("call", ("call", X, (ONE,)), (ONE, X, ONE, X)))
        self.good_term("(step x 1)", ("step", X, ONE))

    def test_statements(self):
        self.good_statement("(let x 1)", ("let", "x", ONE))
        self.good_statement("(set x 1)", ("set", "x", ONE))
        self.good_statement("(do 1)", DO)
        self.good_statement("(if x () ())", ("if", X, (), ()))
        self.good_statement("(if x ((do 1)) ((do x) (do 1)))", ("if", X, (DO,), (("do", X), DO)))
        self.good_statement("(while x ())", ("while", X, ()))
        self.good_statement("(while x ((do 1) (do x)))", ("while", X, (DO, ("do", X))))
        self.good_statement("(hand x)", ("hand", X))
        self.good_statement("(back x)", ("back", X))
        self.good_statement("(fault oh x)", ("fault", "oh", X))
        self.good_statement("(try () any x () ())", ("try", (), "any", "x", (), ()))
        self.good_statement("(try ((do 1)) oh any ((do x)) ((do 1) (do 1)))",
                            ("try", (DO,), "oh", "any", (("do", X),), (DO, DO)))

    def test_each_sample_part(self):
        for term in TERMS.values():
            self.good_term(written(term), term)
        for statement in STATEMENTS.values():
            self.good_statement(written(statement), statement)

    def test_chance_programs(self):
        chance = Chance(2)
        for k in range(300):
            tree = chance.program()
            self.good(written(tree), tree)

    def test_blanks_and_line_feeds(self):
        tree = read(SAMPLE)
        words = words_of(SAMPLE)
        dice = random.Random(3)
        for k in range(100):
            text = dice.choice(("", " ", "\n"))
            for word, behind in zip(words, words[1:] + [""]):
                touches = word in "()" or behind in "()"
                text += word + dice.choice(("", " ", "\n", " \n ", "   ") if touches else (" ", "\n", " \n ", "   "))
            self.good(text, tree)
        self.good("\n\n (main()) \n", program())
        self.good("(main(x)(do x)(do(+ 1(+ 1 x))))",
                  ("main", ("x",), (("do", X), ("do", ("two", "+", ONE, ("two", "+", ONE, X))))))

    def test_names_that_look_like_words_of_the_language(self):
        for word in ("main", "fun", "loop", "call", "step", "let", "set", "do", "if", "while", "hand", "back", "fault",
                     "try", "any", "number", "name", "two"):
            name = ("name", word)
            self.good_term(word, name)
            self.good_term("(call " + word + " " + word + ")", ("call", name, (name,)))
            self.good_term("(step " + word + " " + word + ")", ("step", name, name))
            self.good_term("(fun (" + word + " x))", ("fun", (word, "x"), ()))
            self.good_term("(loop (x " + word + ") (hand " + word + "))", ("loop", ("x", word), (("hand", name),)))
            self.good("(main (" + word + ") (do " + word + "))", ("main", (word,), (("do", name),)))
            self.good_statement("(let " + word + " " + word + ")", ("let", word, name))
            self.good_statement("(set " + word + " " + word + ")", ("set", word, name))
            self.good_statement("(if " + word + " () ())", ("if", name, (), ()))
            self.good_statement("(try () " + word + " " + word + " () ())", ("try", (), word, word, (), ()))
            if word != "any":
                self.good_statement("(fault " + word + " " + word + ")", ("fault", word, name))
        self.good("(main (call f) (do call))", ("main", ("call", "f"), (("do", ("name", "call")),)))
        self.good("(main (let x) (do let))", ("main", ("let", "x"), (("do", ("name", "let")),)))

    def test_heads_of_trees_that_no_text_has(self):
        for text in ("(number 12)", "(name x)", "(two + 1 2)", "(two 1 2)", "(number x)"):
            self.bad_term(text)


class NumbersTest(ReadingTest):
    def test_numbers(self):
        for n in (0, 1, 9, 10, 12, 100, 10 ** 12 - 1, 10 ** 12, -1, -9, -10, -12, -(10 ** 12), 1 - 10 ** 12):
            self.good_term(str(n), ("number", n))

    def test_beyond_the_bounds(self):
        for n in (10 ** 12 + 1, -(10 ** 12) - 1, 10 ** 13 - 1, 10 ** 13, -(10 ** 13), 2 ** 63, 10 ** 20):
            self.bad_term(str(n))

    def test_some_thousands_of_figures(self):
        for length in (50, 4000, 4300, 4301, 5900):
            for figure in "0129":
                self.bad("(main () (do " + figure * length + "))")
                self.bad("(main () (do -" + figure * length + "))")
            self.bad("(main () (do " + "0" * length + "1))")

    def test_other_ways_to_write(self):
        for text in ("00", "01", "007", "-0", "-00", "-01", "+1", "+0", "--1", "-", "+", "-+1", "+-1", "1-", "1-1", "1.0",
                     "1e3", "1_000", "0x1", "1x", "x1", "12a", "-x", "- 1", "1,0", "'1'", "-1-", "0000000000001"):
            self.bad_term(text)


class WrongTextsTest(ReadingTest):
    def test_what_is_no_text(self):
        for thing in odd_things() + [0, 12, program(), ["(", "main", "(", ")", ")"], b"(main ())"]:
            self.bad(thing)
        for sign in "%\t\r\0\x0b\x0c\x7f":
            self.bad("(main" + sign + "())")
            self.bad("(main ())" + sign)

    def test_length(self):
        text = "(main ())"
        self.good(text + " " * (6000 - len(text)), program())
        self.bad(text + " " * (6001 - len(text)))
        self.bad(" " * 6001)

    def test_nothing_and_too_much(self):
        for text in ("", " ", "\n", "()", "( )", "(())", "x", "12", "main", "main ()", "(", ")", ")(", "+"):
            self.bad(text)
        for text in ("(main ()) (main ())", "(main ())(main ())", "(main ()) x", "x (main ())", "(main ()) ()", "() (main ())",
                     "(main ()) 1", "((main ()))", "(main ()) (do 1)", "(do 1) (main ())"):
            self.bad(text)

    def test_another_part_in_the_place_of_the_program(self):
        for part in list(TERMS.values()) + list(STATEMENTS.values()):
            self.bad(written(part))
        self.bad("(fun ())")
        self.bad("(loop ())")

    def test_terms_and_statements_in_the_others_place(self):
        for term in TERMS.values():
            self.bad_statement(written(term))
        for statement in STATEMENTS.values():
            self.bad_term(written(statement))
        for text in ("(main ())", "()", "(())", "((do 1))", "(x)", "(1)", "(x 1)", "((+ 1 2))"):
            self.bad_term(text)
            self.bad_statement(text)

    def test_each_bracket_less_or_too_many(self):
        for text in [SAMPLE, "(main ())"] + [written(program(one)) for one in STATEMENTS.values()]:
            for place in range(len(text) + 1):
                self.bad(text[:place] + "(" + text[place:])
                self.bad(text[:place] + ")" + text[place:])
                if text[place:place + 1] in ("(", ")"):
                    self.bad(text[:place] + text[place + 1:])

    def test_too_few_and_too_many_things(self):
        for text in ("(let x)", "(let)", "(let x 1 2)", "(let x 1 ())", "(set x)", "(set 1 x)", "(let 1 x)", "(let (x) 1)",
                     "(do)", "(do 1 2)", "(do 1 ())", "(if x ())", "(if x)", "(if)", "(if () ())", "(if x () () ())",
                     "(if x (do 1) ())", "(if x () (do 1))", "(if x 1 ())", "(if x y z)", "(while)", "(while x)",
                     "(while ())", "(while x () ())", "(while x (do 1))", "(while x x)", "(while x (x))", "(hand)",
                     "(hand 1 2)", "(hand ())", "(back)", "(back 1 2)", "(fault)", "(fault oh)", "(fault 1)", "(fault oh 1 2)",
                     "(fault 1 oh)", "(fault any 1)", "(fault Oh 1)", "(fault (oh) 1)", "(try)", "(try ())", "(try () any)",
                     "(try () any x)", "(try () any x ())", "(try () any x () () ())", "(try any x () ())", "(try () x () ())",
                     "(try () 1 x () ())", "(try () any 1 () ())", "(try () any (x) () ())", "(try (do 1) any x () ())",
                     "(try x any x () ())", "(try () any x x ())", "(try () any x () x)", "(lets x 1)", "(LET x 1)", "(main ())",
                     "x", "1", "let", "()", "(())"):
            self.bad_statement(text)

    def test_too_few_and_too_many_things_in_terms(self):
        for text in ("(+)", "(+ 1)", "(+ 1 2 3)", "(+ 1 ())", "(1 + 2)", "(1 2 +)", "(/ 1 2)", "(> 1 2)", "(<= 1 2)", "(== 1 2)",
                     "(+1 2)", "(-1)", "(-1 2)", "(fun)", "(fun x)", "(fun x (do 1))", "(fun (do 1))", "(fun (x) x)", "(fun (1))",
                     "(fun (x) 1)", "(fun (x) ())", "(fun (x) ((do 1)))", "(fun ((x)))", "(loop)", "(loop x)", "(loop (x) x)",
                     "(loop (x) ((do 1)))", "(loop (x) ())", "(call)", "(call ())", "(call x ())", "(call x (1))", "(step)",
                     "(step x)", "(step x 1 2)", "(step () 1)", "(x)", "(x 1)", "(12)", "(((x)))", "()", "(sum 1 2)"):
            self.bad_term(text)

    def test_wrong_programs(self):
        for text in ("(main)", "(main x)", "(main x ())", "(main (x) x)", "(main (x) 1)", "(main (x) ())", "(main ((x)))",
                     "(main (x x))", "(main (1))", "(main (X))", "(main () main)", "(Main ())", "(mains ())", "(main () ((do 1)))",
                     "(main (x y) (x))", "(main () () ())"):
            self.bad(text)

    def test_names(self):
        for word in ("X", "ninechars", "x1", "x_y", "x-y", "+", "x.y", "1x", "a[b]", "\"x\"", "~", "#x"):
            self.bad("(main (" + word + "))")
            self.bad_term(word)
            self.bad_term("(fun (x " + word + "))")
            self.bad_statement("(let " + word + " 1)")
            self.bad_statement("(set " + word + " 1)")
            self.bad_statement("(fault " + word + " 1)")
            self.bad_statement("(try () " + word + " x () ())")
            self.bad_statement("(try () any " + word + " () ())")

    def test_words_left_out_doubled_and_changed(self):
        others = ("(", ")", "x", "1", "any", "let", "main", "call", "+", "-0", "hand", "fun", "X")
        for text in (SAMPLE, written(program(("do", ("fun", ("x",), (("do", ("loop", (), (("hand", X),))),)))))):
            words = words_of(text)
            for place in range(len(words)):
                self.whole(" ".join(words[:place] + words[place + 1:]))
                self.whole(" ".join(words[:place] + [words[place]] + words[place:]))
                for word in others:
                    self.whole(" ".join(words[:place] + [word] + words[place + 1:]))
                    self.whole(" ".join(words[:place] + [word] + words[place:]))

    def test_each_beginning_of_a_text(self):
        for place in range(len(SAMPLE)):
            self.bad(SAMPLE[:place])
            if place:
                self.bad(SAMPLE[place:])

    def test_what_is_read_is_written_so(self):
        """A changed text that is read at all has the words of the program that it tells."""
        words = words_of(SAMPLE)
        dice = random.Random(4)
        found = 0
        for k in range(3000):
            changed = list(words)
            for times in range(dice.randrange(1, 4)):
                changed[dice.randrange(len(changed))] = dice.choice(words)
            tree = self.whole(" ".join(changed))
            if tree is not None:
                found += 1
                self.assertEqual(words_of(written(tree)), changed)
        self.assertGreater(found, 50)


class BoundsTest(ReadingTest):
    def test_names(self):
        for head in ("(main (", "(main () (do (fun (", "(main () (do (loop ("):
            tail = ")" * (head.count("(") - head.count(")"))
            self.assertIsNotNone(read(head + "a b c d" + tail))
            self.bad(head + "a b c d e" + tail)
            self.bad(head + "a b a" + tail)
            self.bad(head + "abcdefghi" + tail)
            self.assertIsNotNone(read(head + "abcdefgh" + tail))

    def test_terms(self):
        for k in range(5):
            self.good_term("(call x" + " 1" * k + ")", ("call", X, (ONE,) * k))
        self.bad_term("(call x 1 1 1 1 1)")
        self.bad_term("(call x" + " 1" * 1000 + ")")

    def test_statements(self):
        for begin, end in (("(main () ", ")"), ("(main () (do (fun () ", ")))"), ("(main () (do (loop () ", ")))"),
                           ("(main () (if x (", ") ()))"), ("(main () (if x () (", ")))"), ("(main () (while x (", ")))"),
                           ("(main () (try (", ") any x () ()))"), ("(main () (try () any x (", ") ()))"),
                           ("(main () (try () any x () (", ")))")):
            self.assertIsNotNone(read(begin + "(do 1)" * 12 + end))
            self.bad(begin + "(do 1)" * 13 + end)

    def test_parts(self):
        for size in (299, 300):
            tree = wide_program(size)
            self.good(written(tree), tree)
        for size in (301, 302, 350):
            self.assertLessEqual(len(written(wide_program(size))), 6000)
            self.bad(written(wide_program(size)))

    def test_depth(self):
        tree = program(("do", deep_term(18)))
        self.good(written(tree), tree)
        for depth in (19, 20, 100, 400):
            self.assertLessEqual(len(written(program(("do", deep_term(depth))))), 6000)
            self.bad(written(program(("do", deep_term(depth)))))
        bodies = "(while x (" * 18
        self.assertIsNotNone(read("(main () " + bodies + ")) " * 18 + ")"))
        self.bad("(main () " + "(while x (" * 19 + ")) " * 19 + ")")

    def test_brackets_some_thousands_deep(self):
        for text in ("(" * 6000, ")" * 6000, "(" * 3000 + ")" * 3000, "(main () (do " + "(" * 2900 + ")" * 2900 + "))",
                     "(main " + "(" * 2900 + ")" * 2900 + ")", "(main () (do " + "(+ " * 1900 + "))",
                     "(main () (do " + "(call " * 850 + "x" + ")" * 850 + "))",
                     "(main () (do " + "(+ 1 " * 950 + "1" + ")" * 950 + "))",
                     "(main () " + "(while 1 (" * 490 + "))" * 490 + ")",
                     "(main () " + "(do (fun () " * 420 + "))" * 420 + ")"):
            self.assertLessEqual(len(text), 6000)
            self.bad(text)
        self.bad(nested(5000, list))

    def test_hands(self):
        for text in ("(hand 1)", "(if x ((hand 1)) ())", "(if x () ((hand 1)))", "(while x ((hand 1)))",
                     "(try ((hand 1)) any e () ())", "(try () any e ((hand 1)) ())", "(try () any e () ((hand 1)))"):
            self.assertIsNotNone(read("(main () " + text + ")"))
            self.assertIsNotNone(read("(main () (do (loop () " + text + ")))"))
            self.assertIsNotNone(read("(main () (do (fun () (do (loop () " + text + ")))))"))
            self.bad("(main () (do (fun () " + text + ")))")
            self.bad("(main () (do (loop () (do (fun () " + text + ")))))")


if __name__ == "__main__":
    unittest.main()
