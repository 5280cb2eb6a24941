"""The document's examples, as far as the calls are there."""

import unittest

from helper import edit, last, leads, load, row, spaced, token, told

TOP = "# top\n\nlet a = 1; # one\nlet b = a+2.5;\n# end"


class Examples(unittest.TestCase):
    def test_load(self):
        self.assertEqual(len(TOP), 44)
        self.assertEqual(last(load(TOP)), [3, 12])

    def test_token(self):
        self.assertEqual(last(load(TOP), token(0)), [3, 7, 1, 1, 0] + row("let"))

    def test_leads(self):
        self.assertEqual(last(load(TOP), leads(0)), [1, 0, 5] + row("# top"))
        self.assertEqual(last(load(TOP), leads(12)), [1, 0, 5] + row("# end"))

    def test_the_comment_behind_token_4(self):
        self.assertEqual(last(load(TOP), token(4)), [6, 16, 0, 0, 1] + row(";"))

    def test_spaced(self):
        self.assertEqual(last(load(TOP), spaced()), [20] + row("let a=1;let b=a+2.5;"))

    def test_edits(self):
        self.assertEqual(last(load(TOP), edit(34, 37, "7")), [3, 13])
        self.assertEqual(last(load(TOP), edit(15, 16, '"')), [3, 23])
        self.assertEqual(last(load(TOP), edit(15, 16, "1 ;;;;;")), [8, 29])

    def test_point_between_numbers(self):
        self.assertEqual(told(load("1 . 5"), spaced()), [[1, 3], [4] + row("1. 5")])

    def test_quotes(self):
        self.assertEqual(last(load('";";')), [2, 2])
        self.assertEqual(told(load('";\n";'), spaced()), [[3, 4], [5] + row('";\n";')])


if __name__ == "__main__":
    unittest.main()
