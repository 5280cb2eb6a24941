"""behind: the text of the comment that is behind a token."""

import unittest

from helper import BIG, behind, edit, last, load, row, text, told, undo


class Behind(unittest.TestCase):
    def check(self, whole, i, expected):
        self.assertEqual(last(load(whole), behind(i)), [len(row(expected))] + row(expected), whole)

    def refused(self, whole, i, number):
        given = told(load(whole), behind(i), text())
        self.assertEqual(given[1:], [[number], [len(whole)] + row(whole)], (whole, i))

    def test_its_text(self):
        self.check("a # c", 0, "# c")
        self.check("a# c", 0, "# c")
        self.check("a      #c\nb", 0, "#c")
        self.check("a b; # c d\ne # f", 2, "# c d")
        self.check("a b; # c d\ne # f", 3, "# f")

    def test_each_kind_of_token(self):
        for one in ("a", "1.5", '"x # y"', "=>", ";", "$", '"'):
            self.check(one + " # c\n", 0, "# c")

    def test_blanks_at_its_end(self):
        self.check("a # c   ", 0, "# c")
        self.check("a #   \nb", 0, "#")
        self.check("a; #  c  d  \nb", 1, "#  c  d")
        self.check("a # c\t \nb", 0, "# c\t")
        self.check("a # c \r\nb", 0, "# c \r")

    def test_fewest_and_most_bytes(self):
        self.check("a#", 0, "#")
        self.check("a" + "#" * 3999, 0, "#" * 3999)

    def test_any_bytes(self):
        comment = [35] + [byte for byte in range(256) if byte != 10]
        self.check([97] + comment, 0, comment)

    def test_none_is_behind_it(self):
        self.refused("a", 0, -4)
        self.refused("a b # c", 0, -4)
        self.refused("a;", 1, -4)
        self.refused('a "# b"', 0, -4)
        self.refused('a "# b"', 1, -4)

    def test_one_on_the_next_line_leads(self):
        self.refused("a\n# c\nb", 0, -4)
        self.refused("a\n# c\nb", 1, -4)
        self.refused("a\n# c", 0, -4)
        self.refused("# c\na", 0, -4)
        self.refused("a;\n# c", 1, -4)
        self.check("a # c\n# d\nb", 0, "# c")

    def test_there_is_no_such_token(self):
        for i in (-1, -2, 2, 3, BIG, BIG - 1, -BIG, 1 - BIG):
            self.refused("a # c\nb # d", i, -3)

    def test_without_tokens(self):
        for i in (-1, 0, 1):
            self.assertEqual(last(behind(i)), [-3])
            self.refused("# c\n", i, -3)

    def test_behind_edits_and_undos(self):
        given = told(load("a; # c\nb; # d"), edit(5, 6, "xy "), behind(1), behind(3), edit(2, 3, "\n"), behind(1),
                     undo(), behind(1), undo(), behind(1))
        self.assertEqual([given[2], given[3], given[5], given[7], given[9]],
                         [[4] + row("# xy"), [3] + row("# d"), [-4], [4] + row("# xy"), [3] + row("# c")])


if __name__ == "__main__":
    unittest.main()
