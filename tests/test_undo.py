"""undo: what was held before the last edit is held again."""

import unittest

from helper import edit, last, load, row, text, told, tokens, undo


class Undo(unittest.TestCase):
    def test_none(self):
        self.assertEqual(last(undo()), [-9])
        self.assertEqual(told(load("a"), undo(), text()), [[1, 1], [-9], [1] + row("a")])

    def test_one(self):
        given = told(load("a;b"), edit(1, 2, "c"), undo(), text(), tokens(), undo())
        self.assertEqual(given[2:], [[0], [3] + row("a;b"), [3, 3, 0, 1, 6, 1, 1, 3, 2, 1], [-9]])

    def test_an_object_without_a_load(self):
        self.assertEqual(told(edit(0, 0, "a"), undo(), text(), undo()), [[1, 1], [0], [0], [-9]])

    def test_one_behind_another(self):
        given = told(edit(0, 0, "a"), edit(1, 1, "b"), edit(2, 2, "c"), undo(), text(), undo(), text(), undo(), text())
        self.assertEqual(given[3:], [[2], [2] + row("ab"), [1], [1] + row("a"), [0], [0]])

    def test_at_most_sixteen(self):
        edits = [edit(k, k, "x") for k in range(20)]
        undone = [call for k in range(17) for call in (undo(), text())]
        given = told(*edits, *undone)[20:]
        for k in range(16):
            self.assertEqual(given[2 * k], [15 - k])
            self.assertEqual(given[2 * k + 1], [19 - k] + row("x" * (19 - k)))
        self.assertEqual(given[32:], [[-9], [4] + row("xxxx")])

    def test_just_sixteen(self):
        given = told(*[edit(0, 0, "x")] * 16, *[undo()] * 16, text(), undo())
        self.assertEqual(given[16:], [[15 - k] for k in range(16)] + [[0], [-9]])

    def test_edits_behind_an_undo(self):
        given = told(load("a"), edit(1, 1, "b"), edit(2, 2, "c"), undo(), edit(2, 2, "d"),
                     text(), undo(), text(), undo(), text(), undo())
        self.assertEqual(given[5:], [[3] + row("abd"), [1], [2] + row("ab"), [0], [1] + row("a"), [-9]])

    def test_refused_edits_are_none(self):
        given = told(load("a"), edit(0, 0, "b"), edit(5, 5, "c"), edit(0, 0, "c" * 4000), undo(), text(), undo())
        self.assertEqual(given[2:], [[-2], [-1], [0], [1] + row("a"), [-9]])

    def test_an_edit_that_changes_nothing_is_one(self):
        self.assertEqual(told(load("a;"), edit(0, 0, ""), undo(), undo())[1:], [[2, 2], [0], [-9]])

    def test_a_load_in_between(self):
        given = told(edit(0, 0, "a"), load("b"), edit(1, 1, "c"), undo(), undo(), text())
        self.assertEqual(given[3:], [[0], [-9], [1] + row("b")])

    def test_a_refused_undo_leaves_the_text(self):
        self.assertEqual(told(load("a"), undo(), undo(), text())[1:], [[-9], [-9], [1] + row("a")])

    def test_stretches_behind_an_undo_are_as_they_were(self):
        whole = "a;\nb;\nc;\n"
        given = told(load(whole), edit(3, 3, '"x;'), undo(), edit(6, 7, "d"))
        self.assertEqual(given[3], last(load(whole), edit(6, 7, "d")))


if __name__ == "__main__":
    unittest.main()
