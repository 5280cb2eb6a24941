"""load and text: what is held, and what is refused."""

import unittest

from helper import edit, last, load, row, text, told, tokens, undo


class Load(unittest.TestCase):
    def test_how_many_stretches_and_tokens(self):
        for whole, expected in (
            ("", [1, 0]),
            (" \n", [1, 0]),
            ("# a;b", [1, 0]),
            ("a", [1, 1]),
            (";", [2, 1]),
            ("a;b", [2, 3]),
            (";;;", [4, 3]),
            ('";"', [1, 1]),
            ("a; # ; ;\n;", [3, 3]),
        ):
            self.assertEqual(last(load(whole)), expected, whole)

    def test_the_text_is_held(self):
        whole = list(range(256))
        self.assertEqual(last(load(whole), text()), [256] + whole)

    def test_a_later_load_replaces(self):
        self.assertEqual(told(load("abc;"), load("x"), text(), tokens())[2:], [[1] + row("x"), [1, 3, 0, 1]])

    def test_most_bytes(self):
        self.assertEqual(last(load(";" * 4000)), [4001, 4000])
        self.assertEqual(last(load("a" * 4000), text()), [4000] + row("a" * 4000))

    def test_too_many_bytes(self):
        for size in (4001, 8000):
            given = told(load("a;"), load("b" * size), text(), tokens())
            self.assertEqual(given[1:], [[-1], [2] + row("a;"), [2, 3, 0, 1, 6, 1, 1]])

    def test_no_edit_can_be_undone_behind_it(self):
        given = told(load("a"), edit(0, 0, "b"), load("c"), undo(), text())
        self.assertEqual(given[3:], [[-9], [1] + row("c")])

    def test_a_refused_one_leaves_the_edits(self):
        given = told(load("a"), edit(0, 0, "b"), load("c" * 4001), undo(), text())
        self.assertEqual(given[2:], [[-1], [0], [1] + row("a")])


class Text(unittest.TestCase):
    def test_without_bytes(self):
        self.assertEqual(last(text()), [0])
        self.assertEqual(told(load("a"), load(""), text()), [[1, 1], [1, 0], [0]])

    def test_behind_an_edit(self):
        self.assertEqual(last(load("abcd"), edit(1, 3, "xyz"), text()), [5] + row("axyzd"))


if __name__ == "__main__":
    unittest.main()
