"""tokens, token and leads: gaps, and which comments are with which token."""

import unittest

from helper import BIG, edit, last, lead_list, leads, load, row, text, token, told, tokens


def flags(whole, i):
    """Of token i: its gap, how many comments lead it, whether one is behind it."""
    return last(load(whole), token(i))[2:5]


def leading(whole, i):
    return lead_list(last(load(whole), leads(i)))


class WithoutBytes(unittest.TestCase):
    def test_all(self):
        for calls in ((), (load(""),), (load("a;"), edit(0, 2, ""))):
            given = told(*calls, text(), tokens(), leads(0), token(0), leads(1), leads(-1))
            self.assertEqual(given[-6:], [[0], [0], [0], [-3], [-3], [-3]])


class Tokens(unittest.TestCase):
    def test_kind_place_and_size(self):
        given = last(load(' ab # c\n1.5\n\n"x" => $'), tokens())
        self.assertEqual(given, [5, 3, 1, 2, 4, 8, 3, 5, 13, 3, 6, 17, 2, 7, 20, 1])

    def test_none(self):
        self.assertEqual(last(load(" \n # a\n"), tokens()), [0])

    def test_most(self):
        expected = [4000]
        for place in range(4000):
            expected += [6, place, 1]
        self.assertEqual(last(load("(" * 4000), tokens()), expected)


class Token(unittest.TestCase):
    def test_its_bytes_have_no_count(self):
        whole = '\n"a b" == x1'
        given = told(load(whole), token(0), token(1), token(2))
        self.assertEqual(given[1:], [
            [5, 1, 0, 0, 0] + row('"a b"'), [6, 7, 0, 0, 0] + row("=="), [3, 10, 0, 0, 0] + row("x1"),
        ])

    def test_long_ones(self):
        self.assertEqual(last(load("a" * 4000), token(0)), [3, 0, 0, 0, 0] + row("a" * 4000))

    def test_there_is_none(self):
        for i in (-1, 2, 3, BIG, -BIG):
            self.assertEqual(last(load("a b # c"), token(i)), [-3])
        self.assertEqual(told(load("a b"), token(1))[1], [3, 2, 0, 0, 0] + row("b"))
        self.assertEqual(last(load("# a"), token(0)), [-3])

    def test_a_refusal_leaves_the_text(self):
        self.assertEqual(told(load("a"), token(1), leads(2), text())[1:], [[-3], [-3], [1] + row("a")])


class Gaps(unittest.TestCase):
    def test_between_tokens(self):
        for between, gap in ((" ", 0), ("\n", 0), ("\n\n", 1), ("\n  \n", 1), (" \n\n\n ", 1), (" \n ", 0)):
            self.assertEqual(flags("a" + between + "b", 1), [gap, 0, 0], between)

    def test_before_the_first_thing(self):
        self.assertEqual(flags("\n\n\na", 0), [0, 0, 0])
        self.assertEqual(leading("\n\n\n# c\na", 0), [(0, "# c")])

    def test_between_a_comment_and_a_token(self):
        self.assertEqual(flags("# c\na", 0), [0, 1, 0])
        self.assertEqual(flags("# c\n\na", 0), [1, 1, 0])
        self.assertEqual(flags("a # c\nb", 1), [0, 0, 0])
        self.assertEqual(flags("a # c\n\nb", 1), [1, 0, 0])

    def test_line_ends_on_both_sides_of_a_comment_do_not_add_up(self):
        self.assertEqual(flags("a\n# c\nb", 1), [0, 1, 0])
        self.assertEqual(leading("a\n# c\nb", 1), [(0, "# c")])
        self.assertEqual(leading("a\n\n# c\n# d\n\n# e\nb", 1), [(1, "# c"), (0, "# d"), (1, "# e")])

    def test_odd_bytes_are_things(self):
        self.assertEqual(flags("a\n\r\nb", 2), [0, 0, 0])

    def test_across_stretches(self):
        self.assertEqual(flags("a;\n\nb", 2), [1, 0, 0])
        self.assertEqual(flags("a; # c\n\nb", 2), [1, 0, 0])
        self.assertEqual(flags("a; # c\nb", 2), [0, 0, 0])

    def test_behind_an_edit(self):
        given = told(load("a;\nb;\nc;"), edit(5, 5, "\n"), token(4), edit(2, 3, " "), token(2), token(4))
        self.assertEqual(given[2], [3, 7, 1, 0, 0] + row("c"))
        self.assertEqual(given[4], [3, 3, 0, 0, 0] + row("b"))
        self.assertEqual(given[5], [3, 7, 1, 0, 0] + row("c"))


class Comments(unittest.TestCase):
    def test_behind_a_token(self):
        for whole in ("a # c", "a# c", "a    #", "a # c\nb"):
            self.assertEqual(flags(whole, 0), [0, 0, 1], whole)
        self.assertEqual(flags("a\n# c\nb", 0), [0, 0, 0])

    def test_not_behind_the_token_before_the_last_one(self):
        self.assertEqual(flags("a b # c", 0), [0, 0, 0])
        self.assertEqual(flags("a b # c", 1), [0, 0, 1])

    def test_what_is_behind_does_not_lead(self):
        self.assertEqual(leading("a # c\n# d\nb", 1), [(0, "# d")])
        self.assertEqual(leading("a # c\nb", 1), [])
        self.assertEqual(leading("a # c\n# d", 1), [(0, "# d")])

    def test_one_that_leads(self):
        self.assertEqual(leading("# c\na b", 0), [(0, "# c")])
        self.assertEqual(leading("# c\na b", 1), [])
        self.assertEqual(flags("# c\n# d\n#\na", 0), [0, 3, 0])
        self.assertEqual(leading("# c\n# d\n#\na", 0), [(0, "# c"), (0, "# d"), (0, "#")])

    def test_the_tails(self):
        self.assertEqual(leading("a;\n# c\n\n  # d", 2), [(0, "# c"), (1, "# d")])
        self.assertEqual(leading("# c", 0), [(0, "# c")])
        self.assertEqual(leading("a", 1), [])
        self.assertEqual(leading("a; # c", 2), [])
        self.assertEqual(leading("a # c\n# d\n", 1), [(0, "# d")])

    def test_blanks_at_its_end(self):
        self.assertEqual(leading("#  c d   \na", 0), [(0, "#  c d")])
        self.assertEqual(leading("#   ", 0), [(0, "#")])
        self.assertEqual(leading("# c\t \na", 0), [(0, "# c\t")])
        self.assertEqual(leading("# c \r\na", 0), [(0, "# c \r")])

    def test_any_bytes(self):
        whole = [35] + [byte for byte in range(256) if byte != 10]
        self.assertEqual(last(load(whole), leads(0)), [1, 0, 256] + whole)

    def test_there_is_none(self):
        for i in (-1, 3, 4, BIG, -BIG):
            self.assertEqual(last(load("a b # c"), leads(i)), [-3])
        self.assertEqual(last(load("a b # c"), leads(2)), [0])

    def test_most(self):
        self.assertEqual(last(load("#\n" * 2000), leads(0)), [2000] + [0, 1, 35] * 2000)


if __name__ == "__main__":
    unittest.main()
