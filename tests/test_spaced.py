"""spaced: the tokens written closely."""

import unittest

from helper import edit, last, load, row, spaced, text, told


class Spaced(unittest.TestCase):
    def check(self, whole, expected):
        self.assertEqual(last(load(whole), spaced()), [len(expected)] + row(expected), whole)

    def test_without_tokens(self):
        self.assertEqual(last(spaced()), [0])
        self.check("", "")
        self.check(" \n# c", "")

    def test_no_blank(self):
        self.check("a + b ;", "a+b;")
        self.check("( 1 )", "(1)")
        self.check('a "b" c', 'a"b"c')
        self.check("1 a", "1a")
        self.check("$ $", "$$")
        self.check("+ =", "+=")
        self.check("== >", "==>")
        self.check("1.5 . 5", "1.5.5")

    def test_a_blank(self):
        self.check("a\nb", "a b")
        self.check("a 1", "a 1")
        self.check("1 2", "1 2")
        self.check("1 . 5", "1. 5")
        self.check("1 .\n5", "1. 5")
        self.check("1 .5", "1. 5")
        self.check("= >", "= >")
        self.check("= =", "= =")
        self.check("& &", "& &")
        self.check("| |", "| |")
        self.check("! =", "! =")
        self.check("= = =", "= = =")
        self.check("& &&", "& &&")

    def test_a_line_end(self):
        self.check('"\n"', '"\n"')
        self.check('"a\n"b"', '"a\n"b"')
        self.check('"\n"\n"', '"\n"\n"')
        self.check('" a b\nc "', '"a b c\n"')

    def test_an_odd_quote_that_stays_odd(self):
        self.check('" \\\n"', '"\\"')
        self.check('"\\\n" a', '"\\"a')
        self.check('" \\\n"x"', '"\\\n"x"')
        self.check('" \\ \\\n"', '"\\\\\n"')

    def test_behind_a_line_end_it_begins_anew(self):
        self.check('"\n"\na b', '"\n"a b')
        self.check('"x\n"y"\n"z"', '"x\n"y""z"')
        self.check('"x\n"y"\n"', '"x\n"y"' + '"')

    def test_comments_are_left_out(self):
        self.check("# a\nb # c\n\nd # e", "b d")
        self.check('a "#" # b', 'a"#"')

    def test_a_quote_far_back_on_the_line(self):
        self.check('" a b c d e ; f\n"', '"a b c d e;f\n"')

    def test_the_held_text_stays(self):
        self.assertEqual(told(load("a  b"), spaced(), text())[2], [4] + row("a  b"))

    def test_behind_an_edit(self):
        self.assertEqual(last(load("a b"), edit(1, 2, "+"), spaced()), [3] + row("a+b"))

    def test_most_tokens(self):
        self.check("a " * 200, " ".join(["a"] * 200))
        self.check("; " * 200, ";" * 200)

    def test_more_bytes_than_the_text(self):
        self.check('"a\naa"', '"a aa\n"')

    def test_too_many_tokens(self):
        for whole in ("a " * 201, ";" * 4000):
            self.assertEqual(told(load(whole), spaced(), text())[1:], [[-8], [len(whole)] + row(whole)])

    def test_many_bytes(self):
        words = " ".join(["abcdefghijklmnopqrs"] * 200)
        self.assertEqual(len(words), 3999)
        self.check(words, words)
        self.check("a" * 4000, "a" * 4000)


if __name__ == "__main__":
    unittest.main()
