"""edit: the new text, how many stretches it has, how many bytes were cut anew, and refusals."""

import unittest

from helper import BIG, edit, last, load, row, text, told, tokens, undo

LINES = "a;\nb;\nc; # c\nd"


class Edited(unittest.TestCase):
    def check(self, whole, a, b, part, stretches, cut):
        new = whole[:a] + part + whole[b:]
        given = told(load(whole), edit(a, b, part), text(), tokens())
        self.assertEqual(given[1], [stretches, cut])
        self.assertEqual(given[2], [len(new)] + row(new))
        self.assertEqual(given[3], last(load(new), tokens()))


class HowMuch(Edited):
    def test_the_text_without_bytes(self):
        self.check("", 0, 0, "", 1, 0)
        self.check("", 0, 0, "a", 1, 1)
        self.check("", 0, 0, "a;b", 2, 3)
        self.check("a;b", 0, 3, "", 1, 0)

    def test_at_the_beginning(self):
        self.check(LINES, 0, 0, "x", 4, 3)
        self.check(LINES, 0, 0, "x;", 5, 4)
        self.check(LINES, 0, 1, "", 4, 1)

    def test_an_edit_without_bytes(self):
        self.check(LINES, 0, 0, "", 4, 2)
        self.check(LINES, 2, 2, "", 4, 2)
        self.check(LINES, 3, 3, "", 4, 3)

    def test_in_the_middle(self):
        self.check(LINES, 4, 4, "x", 4, 4)
        self.check(LINES, 3, 4, "x", 4, 3)
        self.check(LINES, 4, 5, "", 3, 9)

    def test_at_a_lines_first_byte(self):
        self.check(LINES, 6, 6, "x", 4, 8)
        self.check(LINES, 6, 7, "", 4, 6)

    def test_at_a_line_end(self):
        # The line end belongs to its line, so what ends on that line is not kept.
        self.check(LINES, 2, 3, "", 4, 4)
        self.check(LINES, 5, 5, "x", 4, 11)

    def test_in_the_tail(self):
        self.check(LINES, 13, 14, "e", 4, 2)
        self.check(LINES, 13, 13, "", 4, 2)
        self.check("a;b", 2, 3, "c", 2, 3)
        self.check("a", 0, 1, "bc", 1, 2)

    def test_at_the_end(self):
        self.check(LINES, 14, 14, "e", 4, 3)
        self.check(LINES, 14, 14, ";", 5, 3)
        self.check("a;\n", 3, 3, "b;", 3, 3)
        self.check("a;", 2, 2, "", 2, 2)
        self.check("a;\n", 3, 3, "", 2, 1)

    def test_several_stretches_of_a_line(self):
        self.check("a;b;c;d", 4, 5, "x", 4, 6)
        self.check("a;b;c;d", 2, 2, ";", 5, 3)
        self.check("a;b;c;d", 0, 4, "", 2, 2)
        self.check("a;b;c;d", 0, 6, "", 1, 1)
        self.check("a;b;c;d", 1, 4, ";", 3, 2)

    def test_an_end_within_the_new_bytes_does_not_count(self):
        self.check("a;b;c", 0, 4, "x;y;", 3, 4)
        self.check("a;b;c", 0, 4, "x;yz", 2, 5)

    def test_an_old_end_within_the_old_bytes_does_not_count(self):
        self.check("a;b;c;d", 1, 6, ";", 2, 2)
        self.check("aa;b;c", 1, 3, "; ", 3, 5)

    def test_all_of_the_text(self):
        self.check(LINES, 0, 14, "x;y", 2, 3)

    def test_most_bytes_cut(self):
        self.check("a" * 4000, 0, 0, "", 1, 4000)
        self.check(";" * 4000, 4000, 4000, "", 4001, 4000)
        self.check(";" * 4000, 0, 1, "", 4000, 1)


class OpenAndClose(Edited):
    def test_a_quote_that_is_opened(self):
        self.check("a;\nb; c\"; d;\ne;", 3, 3, '"', 5, 8)
        self.check("a;b", 0, 0, '"', 2, 3)

    def test_a_quote_that_is_closed(self):
        self.check('x;\n"a;b;\nc;', 7, 7, '"', 4, 7)

    def test_a_quote_on_the_next_line_stays_odd(self):
        self.check('a;\n";\n";', 0, 0, '"', 4, 3)

    def test_lines_that_are_joined(self):
        self.check('";\n";', 2, 3, "", 2, 4)
        self.check('"a;\\\n";', 4, 5, "", 3, 6)
        self.check("a; \n# c\n;", 3, 4, "", 3, 8)

    def test_a_line_that_is_parted(self):
        self.check('"a;b";c;', 2, 2, "\n", 4, 7)

    def test_a_comment_that_is_opened(self):
        self.check("a;b;\nc;", 1, 1, "#", 2, 8)
        self.check("a;b;\nc;", 2, 2, "#", 3, 5)
        self.check("a; b\nc;", 2, 2, " #", 3, 9)

    def test_a_comment_that_is_closed(self):
        self.check("a#;b;\nc;", 1, 2, "", 4, 7)
        self.check("a#;b;\nc;", 2, 2, "\n", 4, 9)
        self.check("a;#b;\nc;", 2, 3, "", 4, 4)

    def test_a_comment_behind_that_grows(self):
        self.check("a; # c\nb;", 6, 6, "d ", 3, 8)
        self.check("a; # c\nb;", 3, 6, "", 3, 6)


class Refused(unittest.TestCase):
    def refused(self, whole, a, b, part, number):
        given = told(load(whole), edit(a, b, part), text(), tokens(), undo())
        self.assertEqual(given[1], [number])
        self.assertEqual(given[2], [len(whole)] + row(whole))
        self.assertEqual(given[3], last(load(whole), tokens()))
        self.assertEqual(given[4], [-9])

    def test_places(self):
        for a, b in ((-1, 0), (-1, -1), (1, 0), (3, 2), (0, 4), (4, 4), (3, 4), (-BIG, BIG), (0, BIG),
                     (BIG, BIG), (BIG, -BIG), (-BIG, -BIG), (-BIG, 0), (1, -BIG)):
            self.refused("a;b", a, b, "x", -2)

    def test_places_at_their_edges(self):
        self.assertEqual(last(load("a;b"), edit(0, 3, "")), [1, 0])
        self.assertEqual(last(load("a;b"), edit(3, 3, "")), [2, 3])
        self.assertEqual(last(load("a;b"), edit(0, 0, "")), [2, 2])
        self.assertEqual(last(edit(0, 0, "a")), [1, 1])
        self.assertEqual(last(edit(0, 1, "a")), [-2])

    def test_too_long(self):
        self.refused("a" * 4000, 0, 0, "b", -1)
        self.refused("a" * 4000, 10, 20, "b" * 11, -1)
        self.refused("a", 1, 1, "b" * 4000, -1)
        self.refused("", 0, 0, "b" * 8000, -1)

    def test_just_long_enough(self):
        self.assertEqual(last(load("a" * 4000), edit(10, 20, "b" * 10)), [1, 4000])
        self.assertEqual(last(load("a"), edit(1, 1, "b" * 3999)), [1, 4000])
        self.assertEqual(last(load("a" * 4000), edit(0, 4000, "b" * 4000)), [1, 4000])

    def test_a_wrong_place_is_told_before_a_text_too_long(self):
        self.refused("a;b", 0, 4, "x" * 4001, -2)
        self.refused("a;b", -1, 0, "x" * 8000, -2)
        self.refused("a;b", 2, 1, "x" * 8000, -2)


if __name__ == "__main__":
    unittest.main()
