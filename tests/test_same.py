"""same: whether a text has the held one's things, and the first token in which they differ."""

import unittest

from helper import edit, last, load, row, same, stretches, text, told, tokens, undo


class Same(unittest.TestCase):
    def check(self, one, other, *expected):
        """Both ways round: what is told doesn't hang on which text is held."""
        for held, handed in ((one, other), (other, one)):
            given = told(load(held), same(handed), text())
            self.assertEqual(given[1:], [list(expected), [len(held)] + row(held)], (held, handed))

    def test_the_same_text(self):
        for whole in ("", "a", "a;b # c\n# d\ne", '"x', "# c", "a" * 4000, ";" * 4000):
            self.check(whole, whole, 0)

    def test_blanks_gaps_and_places_do_not_matter(self):
        self.check("a+b;", " a  +\nb ;\n\n", 0)
        self.check("a\nb", "a\n\n\nb", 0)
        self.check("# c\na", "\n\n # c\n\n\n  a", 0)
        self.check("a # c\nb", "a# c\n\nb", 0)
        self.check("a # c   \nb", "a # c\nb", 0)
        self.check("# c \na", "# c\na", 0)
        self.check("a\n# c", "a\n\n# c  \n", 0)

    def test_bytes(self):
        self.check("a b c", "a d c", 1, 1)
        self.check("a", "ab", 1, 0)
        self.check("1.5", "1.50", 1, 0)
        self.check('"a b"', '"a  b"', 1, 0)
        self.check("a = b", "a == b", 1, 1)

    def test_kinds(self):
        self.check("x a", "x 1", 1, 1)
        self.check("x ;", "x $", 1, 1)
        self.check('x "', 'x ""', 1, 1)
        self.check("x &&", "x & &", 1, 1)
        self.check("x 1.5", "x 1 .5", 1, 1)

    def test_the_first_of_several(self):
        self.check("a b c d", "a x c y", 1, 1)
        self.check("a b # c\nd", "a b # e\nf", 1, 1)

    def test_a_leading_comment(self):
        self.check("a\n# c\nb", "a\n# d\nb", 1, 1)
        self.check("a\n# c\nb", "a\nb", 1, 1)
        self.check("# c\na", "a", 1, 0)
        self.check("#  c\na", "# c\na", 1, 0)
        self.check("# c\n# d\na", "# c\na", 1, 0)
        self.check("# c\n\na", "# c\n#\na", 1, 0)

    def test_a_comment_behind(self):
        self.check("a b # c\nd", "a b # d\nd", 1, 1)
        self.check("a b # c\nd", "a b\nd", 1, 1)
        self.check("a b #\nd", "a b\nd", 1, 1)

    def test_with_another_token(self):
        self.check("a # c\nb", "a\n# c\nb", 1, 0)
        self.check("a # c", "a\n# c", 1, 0)
        self.check("a # c\nb", "a b # c", 1, 0)
        self.check("x a # c\n# d\nb", "x a\n# c\n# d\nb", 1, 1)

    def test_the_order_of_comments(self):
        self.check("x\n# c\n# d\na", "x\n# d\n# c\na", 1, 1)
        self.check("a # c\n# d\nb", "a # d\n# c\nb", 1, 0)
        self.check("a\n# c\n# d", "a\n# d\n# c", 1, 1)

    def test_the_tails_comments_alone(self):
        self.check("a b\n# c", "a b\n# d", 1, 2)
        self.check("a b\n# c", "a b", 1, 2)
        self.check("a;\n# c\n# d", "a;\n# c", 1, 2)

    def test_a_token_before_the_tails_comments(self):
        self.check("a\n# c", "b\n# d", 1, 0)

    def test_one_has_more_tokens(self):
        self.check("a b", "a b c", 1, 2)
        self.check("a", "a;b;c;", 1, 1)
        self.check("", "a", 1, 0)
        self.check("# c", "# c\na", 1, 0)
        self.check("a\n# c", "a\n# c\nb", 1, 1)
        self.check("a b\n# c", "a b c\n# d", 1, 2)
        self.check(";" * 3999, ";" * 4000, 1, 3999)

    def test_one_has_more_tokens_and_they_differ_before(self):
        self.check("a b", "a c d", 1, 1)
        self.check("a b", "a b # c\nd", 1, 1)

    def test_without_tokens(self):
        self.check("", " \n\n ", 0)
        self.check("# c", "\n# c \n", 0)
        self.check("# c", "", 1, 0)
        self.check("# c", "# d", 1, 0)
        self.check("# c\n# d", "# d\n# c", 1, 0)

    def test_largest_number(self):
        self.check("(" * 3998 + "\n#", "(" * 3998, 1, 3998)
        self.assertEqual(last(load("(" * 4000), same("(" * 3999 + ")")), [1, 3999])

    def test_without_a_load(self):
        self.assertEqual(told(same(""), same(" # "), same("a")), [[0], [1, 0], [1, 0]])

    def test_how_many_bytes(self):
        given = told(load("a"), same("a" + " " * 3999), same("a" + " " * 4000), same("a" * 4001), text())
        self.assertEqual(given[1:], [[0], [-1], [-1], [1, 97]])
        self.assertEqual(told(load("a"), same("a" * 8000), text())[1:], [[-1], [1, 97]])

    def test_what_is_held_stays(self):
        given = told(load("a;b"), edit(2, 3, "c"), same("x;\ny;"), text(), tokens(), stretches(), undo(), text())
        self.assertEqual(given[2:], [
            [1, 0], [3] + row("a;c"), [3, 3, 0, 1, 6, 1, 1, 3, 2, 1], [2, 2, 3], [0], [3] + row("a;b"),
        ])

    def test_a_refusal_leaves_the_edits(self):
        self.assertEqual(told(load("a"), edit(1, 1, "b"), same("c" * 4001), undo(), text())[2:], [[-1], [0], [1, 97]])

    def test_behind_edits_and_undos(self):
        given = told(load("a; # c\nb;"), edit(0, 0, "x"), same("xa; # c\nb;"), same("a; # c\nb;"), undo(),
                     same("xa; # c\nb;"), same("a;# c\n\nb;"))
        self.assertEqual(given[2:], [[0], [1, 0], [0], [1, 0], [0]])


if __name__ == "__main__":
    unittest.main()
