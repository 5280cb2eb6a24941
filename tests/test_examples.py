"""The document's examples, number by number."""

import unittest

from helper import behind, edit, last, leads, load, offset, place, row, spaced, stretch, stretches, token, told

TOP = "# top\n\nlet a = 1; # one\nlet b = a+2.5;\n# end"


class Examples(unittest.TestCase):
    def test_load(self):
        self.assertEqual(len(TOP), 44)
        self.assertEqual(last(load(TOP)), [3, 12])

    def test_token(self):
        self.assertEqual(last(load(TOP), token(0)), [3, 7, 1, 1, 0] + row("let"))

    def test_leads(self):
        self.assertEqual(last(load(TOP), leads(0)), [1, 0, 5] + row("# top"))
        self.assertEqual(last(load(TOP), leads(12)), [1, 0, 5] + row("# end"))

    def test_behind(self):
        self.assertEqual(last(load(TOP), token(4)), [6, 16, 0, 0, 1] + row(";"))
        self.assertEqual(last(load(TOP), behind(4)), [5] + row("# one"))

    def test_stretches(self):
        self.assertEqual(last(load(TOP), stretches()), [3, 23, 38, 44])

    def test_stretch(self):
        self.assertEqual(last(load(TOP), stretch(1)), [23, 15, 5, 7])

    def test_place(self):
        self.assertEqual(last(load(TOP), place(36)), [3, 12, 4, 10])
        self.assertEqual(last(load(TOP), place(44)), [4, 5, 8, -1])

    def test_offset(self):
        self.assertEqual(last(load(TOP), offset(3, 12)), [36])
        self.assertEqual(last(load(TOP), offset(0, 5)), [5])
        self.assertEqual(last(load(TOP), offset(0, 6)), [-2])

    def test_spaced(self):
        self.assertEqual(last(load(TOP), spaced()), [20] + row("let a=1;let b=a+2.5;"))

    def test_edits(self):
        self.assertEqual(last(load(TOP), edit(34, 37, "7")), [3, 13])
        self.assertEqual(last(load(TOP), edit(15, 16, '"')), [3, 23])
        self.assertEqual(last(load(TOP), edit(15, 16, "1 ;;;;;")), [8, 29])

    def test_point_between_numbers(self):
        self.assertEqual(told(load("1 . 5"), spaced()), [[1, 3], [4] + row("1. 5")])

    def test_quotes(self):
        self.assertEqual(last(load('";";')), [2, 2])
        self.assertEqual(told(load('";\n";'), spaced()), [[3, 4], [5] + row('";\n";')])


if __name__ == "__main__":
    unittest.main()
