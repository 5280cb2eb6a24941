"""place and offset: lines, columns, and the piece that stands at a place."""

import unittest

from helper import BIG, edit, last, load, offset, place, row, text, told, undo

BLANK, LINE_END, COMMENT, WORD, NUMBER, QUOTED, SIGN, ODD, TEXT_END = range(9)


class Place(unittest.TestCase):
    def check(self, whole, n, *expected):
        self.assertEqual(last(load(whole), place(n)), list(expected), (whole, n))

    def test_each_kind_at_its_first_a_middle_and_its_last_byte(self):
        for kind, part in ((WORD, "ab1"), (NUMBER, "1.5"), (NUMBER, "123"), (QUOTED, '"x y"'), (QUOTED, '" # "')):
            for n in range(len(part)):
                self.check("x " + part + " y", 2 + n, 0, 2 + n, kind, 1)
        for kind, part in ((SIGN, "=>"), (SIGN, "&&"), (SIGN, ";"), (ODD, "$"), (ODD, '"'), (ODD, "\xff")):
            for n in range(len(part)):
                self.check("x\ny\n" + part + " z", 4 + n, 2, n, kind, 2)

    def test_what_is_no_token(self):
        self.check("a  b", 1, 0, 1, BLANK, -1)
        self.check("a  b", 2, 0, 2, BLANK, -1)
        self.check("a\n\nb", 1, 0, 1, LINE_END, -1)
        self.check("a\n\nb", 2, 1, 0, LINE_END, -1)
        for n in range(1, 7):
            self.check("a# b ;\nc", n, 0, n, COMMENT if n < 6 else LINE_END, -1)

    def test_blanks_at_a_comments_end_are_its_own(self):
        self.check("# c  ", 4, 0, 4, COMMENT, -1)
        self.check("a; # c  \nb", 7, 0, 7, COMMENT, -1)

    def test_the_texts_end(self):
        self.check("", 0, 0, 0, TEXT_END, -1)
        self.assertEqual(last(place(0)), [0, 0, 8, -1])
        self.check("a", 1, 0, 1, TEXT_END, -1)
        self.check("a;", 2, 0, 2, TEXT_END, -1)
        self.check("a\n", 2, 1, 0, TEXT_END, -1)
        self.check("a\n# c", 5, 1, 3, TEXT_END, -1)

    def test_right_before_and_behind_a_line_end(self):
        whole = "ab\ncd\n"
        self.check(whole, 1, 0, 1, WORD, 0)
        self.check(whole, 2, 0, 2, LINE_END, -1)
        self.check(whole, 3, 1, 0, WORD, 1)
        self.check(whole, 5, 1, 2, LINE_END, -1)
        self.check(whole, 6, 2, 0, TEXT_END, -1)

    def test_numbers_among_the_tokens_go_on_over_stretches(self):
        whole = "a; # c;\nb c;d"
        self.check(whole, 0, 0, 0, WORD, 0)
        self.check(whole, 1, 0, 1, SIGN, 1)
        self.check(whole, 8, 1, 0, WORD, 2)
        self.check(whole, 10, 1, 2, WORD, 3)
        self.check(whole, 11, 1, 3, SIGN, 4)
        self.check(whole, 12, 1, 4, WORD, 5)

    def test_most(self):
        self.check("\n" * 4000, 4000, 4000, 0, TEXT_END, -1)
        self.check("\n" * 4000, 3999, 3999, 0, LINE_END, -1)
        self.check("a" * 4000, 4000, 0, 4000, TEXT_END, -1)
        self.check("(" * 4000, 3999, 0, 3999, SIGN, 3999)

    def test_refused(self):
        for n in (-1, -2, 4, 5, BIG, BIG - 1, -BIG, 1 - BIG):
            given = told(load("a;b"), place(n), text())
            self.assertEqual(given[1:], [[-2], [3] + row("a;b")], n)
        self.assertEqual(told(place(1), place(-1)), [[-2], [-2]])

    def test_behind_edits_and_undos(self):
        given = told(load("a;\nb;"), place(3), edit(0, 0, "\n"), place(4), edit(4, 5, '"x"'), place(6), place(9),
                     undo(), place(6), undo(), place(3), place(6))
        self.assertEqual(
            [given[1], given[3], given[5], given[6], given[8], given[10], given[11]],
            [[1, 0, 3, 2], [2, 0, 3, 2], [2, 2, 5, 2], [-2], [2, 2, 8, -1], [1, 0, 3, 2], [-2]],
        )


class Offset(unittest.TestCase):
    def check(self, whole, line, column, expected):
        given = told(load(whole), offset(line, column), text())
        self.assertEqual(given[1:], [[expected], [len(whole)] + row(whole)], (whole, line, column))

    def test_each_place_comes_back(self):
        for whole in ("", "a", "\n", "\n\n", "ab\n", "ab\n\ncd # e\n;", "\n ab\n"):
            for n in range(len(whole) + 1):
                line, column = last(load(whole), place(n))[:2]
                self.check(whole, line, column, n)

    def test_a_lines_last_place(self):
        self.check("ab\nc", 0, 2, 2)
        self.check("ab\nc", 0, 3, -2)
        self.check("ab\n\nc", 1, 0, 3)
        self.check("ab\n\nc", 1, 1, -2)

    def test_the_last_line_with_bytes(self):
        self.check("ab\ncd", 1, 0, 3)
        self.check("ab\ncd", 1, 2, 5)
        self.check("ab\ncd", 1, 3, -2)
        self.check("ab\ncd", 2, 0, -2)

    def test_the_last_line_without_bytes(self):
        self.check("ab\n", 1, 0, 3)
        self.check("ab\n", 1, 1, -2)
        self.check("ab\n", 2, 0, -2)

    def test_the_text_without_bytes(self):
        self.assertEqual(told(offset(0, 0), offset(0, 1), offset(1, 0), offset(0, -1), offset(-1, 0)),
                         [[0], [-2], [-2], [-2], [-2]])

    def test_below_0(self):
        for line, column in ((-1, 0), (0, -1), (1, -1), (-1, -1), (-2, 1), (2, -1)):
            self.check("ab\ncd\n", line, column, -2)

    def test_large_numbers(self):
        for large in (BIG, BIG - 1, -BIG, 1 - BIG):
            for line, column in ((large, 0), (0, large), (1, large), (large, large), (large, -large), (-1, large)):
                self.check("ab\ncd", line, column, -2)

    def test_most(self):
        self.check("\n" * 4000, 4000, 0, 4000)
        self.check("\n" * 4000, 4001, 0, -2)
        self.check("a" * 4000, 0, 4000, 4000)
        self.check("a" * 4000, 0, 4001, -2)

    def test_behind_edits_and_undos(self):
        given = told(load("ab\ncd"), edit(1, 1, "\n"), offset(1, 1), offset(0, 2), undo(), offset(0, 2), offset(2, 0))
        self.assertEqual(given[2:], [[3], [-2], [0], [2], [-2]])


if __name__ == "__main__":
    unittest.main()
