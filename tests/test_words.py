import unittest

from samples import odd_things
from waitloom.errors import BadText
from waitloom.words import words_of


class WordsTest(unittest.TestCase):
    def bad(self, thing):
        with self.assertRaises(BadText) as caught:
            words_of(thing)
        self.assertIs(type(caught.exception), BadText)

    def test_words(self):
        told = [
            ("", []), (" ", []), ("\n", []), (" \n \n\n  ", []), ("x", ["x"]), ("  x\n", ["x"]), ("(", ["("]),
            (")", [")"]), ("()", ["(", ")"]), (")(", [")", "("]), ("((", ["(", "("]), ("( )", ["(", ")"]),
            ("(x)", ["(", "x", ")"]), ("x(y)z", ["x", "(", "y", ")", "z"]), ("x y", ["x", "y"]),
            ("x\ny", ["x", "y"]), ("x \n y", ["x", "y"]), ("ab)cd", ["ab", ")", "cd"]),
            ("(main (x y)\n (do 12))", ["(", "main", "(", "x", "y", ")", "(", "do", "12", ")", ")"]),
            ("-12 +1 --2 <= a-b", ["-12", "+1", "--2", "<=", "a-b"]), ("A1_\"'~!#$&,./:;?@\\^`|", ["A1_\"'~!#$&,./:;?@\\^`|"]),
            ("a[b]{c}", ["a[b]{c}"]),
        ]
        for text, expected in told:
            self.assertEqual(words_of(text), expected, text)
            self.assertIsInstance(words_of(text), list)

    def test_each_sign(self):
        for k in range(128):
            sign = chr(k)
            for text in (sign, "x" + sign, sign + "x", "(x" + sign + "x)"):
                if sign == "\n" or " " <= sign <= "~" and sign != "%":
                    cut = [" " + one + " " if one in "()" else one for one in text]
                    self.assertEqual(words_of(text), [word for word in "".join(cut).replace("\n", " ").split(" ") if word])
                else:
                    self.bad(text)

    def test_signs_that_no_text_has(self):
        for sign in "%\t\r\0\x0b\x0c\x1c\x1f\x7f":
            self.bad(sign)
            self.bad("(main ()" + sign + ")")
            self.bad(" " * 5999 + sign)

    def test_length(self):
        self.assertEqual(words_of("x" * 6000), ["x" * 6000])
        self.assertEqual(words_of("(" * 6000), ["("] * 6000)
        self.assertEqual(words_of(" " * 6000), [])
        self.assertEqual(words_of("\n" * 6000), [])
        for sign in "x( )\n":
            self.bad(sign * 6001)
        self.bad("()" + " " * 5999)
        self.bad("x" * 1000000)

    def test_what_is_no_text(self):
        for thing in odd_things():
            if not isinstance(thing, str):
                self.bad(thing)
        for thing in (0, 12, ("x",), ["(", ")"], [], b"(main ())"):
            self.bad(thing)

    def test_what_is_told_is_the_askers_own(self):
        told = words_of("(x)")
        told.append("y")
        self.assertEqual(words_of("(x)"), ["(", "x", ")"])


if __name__ == "__main__":
    unittest.main()
