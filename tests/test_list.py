"""The list of calls and the list of answers."""

import contextlib
import inspect
import io
import sys
import unittest

from cutanew.held import UnknownCall, answers
from helper import (
    apart, behind, edit, leads, load, offset, place, row, same, spaced, stretch, stretches, text, token, told, tokens,
    undo,
)


class Fixed(list):
    """A list that can't be changed, not for a while either."""

    def refuse(self, *given, **named):
        raise AssertionError("the list handed in is being changed")

    append = extend = insert = pop = remove = clear = sort = reverse = refuse
    __setitem__ = __delitem__ = __iadd__ = __imul__ = refuse


MANY = [
    load("a; # c\nb"), edit(0, 1, '"x"'), text(), tokens(), token(0), leads(1), behind(1), stretches(), stretch(1),
    place(9), offset(1, 0), same('"x";b'), spaced(), undo(), undo(), edit(9, 2, "q"), load("b" * 4001), text(),
    leads(9), behind(0), behind(9), stretch(2), place(9), offset(1, 2), same("b" * 4001), same("a;# c\nb"),
]


class Lists(unittest.TestCase):
    def test_counts_and_answers_stand_one_behind_another(self):
        self.assertEqual(answers([3]), [1, 0])
        self.assertEqual(answers([0, 2, 97, 59, 3, 2, 5, 0]), [2, 2, 2, 3, 2, 97, 59, 1, -9, 6, 3, 0, 0, 0, 0, 97])
        self.assertEqual(answers([1, 0, 0, 0, 1, -1, 0, 0, 2, 2]), [2, 1, 0, 1, -2, 1, 0, 1, -9])

    def test_bytes_that_look_like_calls(self):
        self.assertEqual(told(load([3, 0, 13]), text(), edit(0, 3, [2, 2]), text()),
                         [[1, 3], [3, 3, 0, 13], [1, 2], [2, 2, 2]])

    def test_several_calls(self):
        self.assertEqual(told(*MANY), [
            [2, 3], [2, 8], [10] + row('"x"; # c\nb'), [3, 5, 0, 3, 6, 3, 1, 3, 9, 1], [5, 0, 0, 0, 0] + row('"x"'),
            [0], [3] + row("# c"), [2, 8, 10], [8, 2, 2, 1], [1, 0, 3, 2], [9], [1, 1], [5] + row('"x";b'),
            [0], [-9], [-2], [-1], [8] + row("a; # c\nb"), [-3], [-4], [-3], [-3], [-2], [-2], [-1], [0],
        ])

    def test_all_calls_are_among_them(self):
        self.assertEqual({call[0] for call in MANY}, set(range(14)))

    def test_a_number_of_no_call(self):
        for number in (-1, 14):
            self.assertRaises(UnknownCall, answers, [number])

    def test_places_and_offsets_stand_one_behind_another(self):
        self.assertEqual(answers([0, 3, 97, 59, 10, 8, 9, 0, 10, 3, 11, 1, 0, 12, 2, 97, 59, 7, 0, 7, 2]),
                         [2, 2, 2, 3, 2, 2, 3, 4, 0, 2, 0, 2, 4, 1, 0, 8, -1, 1, 3, 1, 0, 1, -4, 1, -3])

    def test_eighty_calls(self):
        given = told(load("a"), *[edit(0, 0, "b")] * 78, text())
        self.assertEqual(given[-1], [79] + row("b" * 78 + "a"))

    def test_the_list_is_not_changed(self):
        calls = Fixed([number for call in MANY for number in call])
        before = list(calls)
        given = answers(calls)
        self.assertEqual(list(calls), before)
        self.assertEqual(apart(given), told(*MANY))

    def test_nothing_is_kept(self):
        first = answers([0, 1, 97, 1, 0, 0, 1, 98])
        self.assertEqual(answers([3, 2, 4, 8, 12, 0]), [1, 0, 1, -9, 1, 0, 2, 1, 0, 1, 0])
        self.assertEqual(answers([0, 1, 97, 1, 0, 0, 1, 98]), first)

    def test_what_was_given_back_is_not_used_again(self):
        calls = [number for call in MANY for number in call]
        first = answers(calls)
        copy = list(first)
        first.clear()
        self.assertEqual(answers(calls), copy)

    def test_nothing_is_printed(self):
        out, err = io.StringIO(), io.StringIO()
        with contextlib.redirect_stdout(out), contextlib.redirect_stderr(err):
            told(*MANY)
        self.assertEqual(out.getvalue() + err.getvalue(), "")


class Loops(unittest.TestCase):
    """What is as long as its input is gone through by loops, in a time that goes with its length."""

    def test_no_deep_calls(self):
        wholes = [sign * 4000 for sign in ("a", "1", "(", "{", ";", '"', "\\", "#", " ", "\n", "=", "&")]
        wholes += ['"\\' * 2000, "#\n" * 2000, "a;" * 2000, '"' + "\\" * 3998 + '"']
        before = sys.getrecursionlimit()
        depth = len(inspect.stack())
        sys.setrecursionlimit(depth + 30)
        try:
            for whole in wholes:
                told(load(whole), edit(1, 2, "x"), tokens(), token(0), leads(0), behind(0), stretches(), stretch(1),
                     place(4000), offset(0, 4000), offset(4000, 0), same(whole), spaced(), undo())
        finally:
            sys.setrecursionlimit(before)

    def test_a_line_full_of_open_quotes(self):
        # Each quote is taken by the backslash before it, so none closes; gone through
        # to the line end for each of them, these edits would take minutes.
        whole = '"' + '\\"' * 1999
        given = told(load(whole), *[edit(0, 0, "")] * 79)
        self.assertEqual(given[0], [1, 3999])
        self.assertEqual(given[-1], [1, 3999])


if __name__ == "__main__":
    unittest.main()
