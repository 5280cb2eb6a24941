"""stretches and stretch: where they begin and end, and how many tokens stand before them and in them."""

import unittest

from helper import BIG, edit, last, load, row, stretch, stretches, text, told, undo


def parts(whole):
    """What stretch tells of each stretch."""
    count = last(load(whole), stretches())[0]
    return [last(load(whole), stretch(k)) for k in range(count)]


class Stretches(unittest.TestCase):
    def check(self, whole, *ends):
        self.assertEqual(last(load(whole), stretches()), [len(ends)] + list(ends), whole)

    def test_without_bytes(self):
        self.assertEqual(last(stretches()), [1, 0])
        self.check("", 0)

    def test_no_semicolon(self):
        self.check("a b", 3)
        self.check("a\n# c\n", 6)
        self.check(" ", 1)

    def test_a_semicolon_at_the_end(self):
        self.check("a;", 2, 2)
        self.check(";", 1, 1)
        self.check(";;", 1, 2, 2)

    def test_the_tail(self):
        self.check("a;b", 2, 3)
        self.check("a;\n", 2, 3)
        self.check("a; ", 2, 3)
        self.check("a;\n# c", 2, 6)

    def test_a_comment_behind_the_semicolon(self):
        self.check("a;# c\nb", 5, 7)
        self.check("a;   # c\nb;c", 8, 11, 12)
        self.check("a; # c", 6, 6)
        self.check("a; # c  \nb", 8, 10)
        self.check("a; #  ", 6, 6)
        self.check("a;;# c\nb", 2, 6, 8)

    def test_a_line_end_before_the_comment(self):
        self.check("a;\n# c\nb", 2, 8)
        self.check("a; \n # c", 2, 8)

    def test_a_comment_before_the_semicolon(self):
        self.check("a # c\n;b", 7, 8)

    def test_a_semicolon_in_a_quoted_text(self):
        self.check('";"', 3)
        self.check('a";;";b', 6, 7)
        self.check('a;"# c"', 2, 7)

    def test_a_semicolon_in_an_odd_quotes_line(self):
        self.check('"a;b\n";', 3, 7, 7)

    def test_a_semicolon_in_a_comment(self):
        self.check("# a;b\nc", 7)
        self.check("a; # b;c;\nd;", 9, 12, 12)

    def test_most(self):
        self.check(";" * 4000, *range(1, 4001), 4000)
        self.check("a" * 4000, 4000)

    def test_behind_edits_and_undos(self):
        given = told(load("a;\nb;\nc;"), edit(3, 4, "xyz"), stretches(), edit(0, 2, ""), stretches(),
                     undo(), stretches(), undo(), stretches())
        self.assertEqual(given[2::2], [[4, 2, 7, 10, 10], [3, 5, 8, 8], [4, 2, 7, 10, 10], [4, 2, 5, 8, 8]])

    def test_behind_a_refusal(self):
        given = told(load("a;b"), edit(0, 4, ";"), edit(0, 0, "a" * 4000), load("a" * 4001), undo(), stretches())
        self.assertEqual(given[1:], [[-2], [-1], [-1], [-9], [2, 2, 3]])


class Stretch(unittest.TestCase):
    def test_begin_size_and_tokens(self):
        self.assertEqual(parts(""), [[0, 0, 0, 0]])
        self.assertEqual(parts("a b"), [[0, 3, 0, 2]])
        self.assertEqual(parts("a;"), [[0, 2, 0, 2], [2, 0, 2, 0]])
        self.assertEqual(parts("a + b; # c ; d  \n\nx;;y"),
                         [[0, 16, 0, 4], [16, 4, 4, 2], [20, 1, 6, 1], [21, 1, 7, 1]])
        self.assertEqual(parts("# c\na;\n# d\n"), [[0, 6, 0, 2], [6, 5, 2, 0]])
        self.assertEqual(parts('";" x;# \n'), [[0, 8, 0, 3], [8, 1, 3, 0]])

    def test_without_a_load(self):
        self.assertEqual(told(stretch(0), stretch(1), stretch(-1)), [[0, 0, 0, 0], [-3], [-3]])

    def test_there_is_none(self):
        for k in (-1, -2, 3, 4, BIG, BIG - 1, -BIG, 1 - BIG):
            given = told(load("a;b;c"), stretch(k), text(), stretches())
            self.assertEqual(given[1:], [[-3], [5] + row("a;b;c"), [3, 2, 4, 5]], k)

    def test_most(self):
        given = told(load(";" * 4000), stretch(0), stretch(3999), stretch(4000), stretch(4001))
        self.assertEqual(given[1:], [[0, 1, 0, 1], [3999, 1, 3999, 1], [4000, 0, 4000, 0], [-3]])

    def test_behind_edits_and_undos(self):
        given = told(load("a;\nb;\nc;"), edit(3, 4, "x y"), stretch(1), stretch(2), edit(4, 4, ";"), stretch(3),
                     undo(), stretch(2), undo(), stretch(2), stretch(4))
        self.assertEqual([given[2], given[3], given[5], given[7], given[9], given[10]],
                         [[2, 5, 2, 3], [7, 3, 5, 2], [8, 3, 6, 2], [7, 3, 5, 2], [5, 3, 4, 2], [-3]])


if __name__ == "__main__":
    unittest.main()
