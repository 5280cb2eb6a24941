"""Pieces: what begins at each byte, and how far it goes."""

import unittest

from helper import last, leads, lead_list, load, row, token_list, tokens

WORD, NUMBER, QUOTED, SIGN, ODD = 3, 4, 5, 6, 7


class Words(unittest.TestCase):
    def test_letters_digits_and_underscores(self):
        for word in ("a", "z", "A", "Z", "_", "a1", "_9z", "Zz_09"):
            self.assertEqual(token_list(word), [(WORD, word)])

    def test_a_digit_first_is_a_number(self):
        self.assertEqual(token_list("1a"), [(NUMBER, "1"), (WORD, "a")])

    def test_neighbours_of_letters_and_digits_are_none(self):
        for odd in "@`^":
            self.assertEqual(token_list("a" + odd + "b"), [(WORD, "a"), (ODD, odd), (WORD, "b")])
        for sign in "[{/:":
            self.assertEqual(token_list("a" + sign + "1"), [(WORD, "a"), (SIGN, sign), (NUMBER, "1")])

    def test_blanks_and_line_ends_part_words(self):
        self.assertEqual(last(load("a b\nc"), tokens()), [3, WORD, 0, 1, WORD, 2, 1, WORD, 4, 1])


class Numbers(unittest.TestCase):
    def test_points(self):
        self.assertEqual(token_list("1.5"), [(NUMBER, "1.5")])
        self.assertEqual(token_list("10.250"), [(NUMBER, "10.250")])
        self.assertEqual(token_list("1."), [(NUMBER, "1"), (SIGN, ".")])
        self.assertEqual(token_list("1.5.2"), [(NUMBER, "1.5"), (SIGN, "."), (NUMBER, "2")])
        self.assertEqual(token_list("1.5."), [(NUMBER, "1.5"), (SIGN, ".")])
        self.assertEqual(token_list("1..5"), [(NUMBER, "1"), (SIGN, "."), (SIGN, "."), (NUMBER, "5")])
        self.assertEqual(token_list(".5"), [(SIGN, "."), (NUMBER, "5")])
        self.assertEqual(token_list("1.a"), [(NUMBER, "1"), (SIGN, "."), (WORD, "a")])
        self.assertEqual(token_list("a.5"), [(WORD, "a"), (SIGN, "."), (NUMBER, "5")])
        self.assertEqual(token_list("1 .5"), [(NUMBER, "1"), (SIGN, "."), (NUMBER, "5")])

    def test_first_and_last_digit(self):
        self.assertEqual(token_list("0123456789"), [(NUMBER, "0123456789")])
        self.assertEqual(token_list("0.9"), [(NUMBER, "0.9")])


class Quoted(unittest.TestCase):
    def test_closed(self):
        for whole in ('""', '"a"', '"a b;c"', '"# no comment"', '"\x80\xff\x00\t"'):
            self.assertEqual(token_list(whole), [(QUOTED, whole)])

    def test_the_next_quote_closes(self):
        self.assertEqual(token_list('"a"b"c"'), [(QUOTED, '"a"'), (WORD, "b"), (QUOTED, '"c"')])
        self.assertEqual(token_list('"""'), [(QUOTED, '""'), (ODD, '"')])

    def test_not_closed_at_the_end(self):
        self.assertEqual(token_list('"'), [(ODD, '"')])
        self.assertEqual(token_list('"a;'), [(ODD, '"'), (WORD, "a"), (SIGN, ";")])

    def test_not_closed_before_the_line_end(self):
        self.assertEqual(token_list('"a\n"'), [(ODD, '"'), (WORD, "a"), (ODD, '"')])
        self.assertEqual(token_list('"a\n"b"'), [(ODD, '"'), (WORD, "a"), (QUOTED, '"b"')])

    def test_a_backslash_takes_a_quote(self):
        self.assertEqual(token_list('"\\""'), [(QUOTED, '"\\""')])
        self.assertEqual(token_list('"\\"'), [(ODD, '"'), (ODD, "\\"), (ODD, '"')])
        self.assertEqual(token_list('"a\\"b" c'), [(QUOTED, '"a\\"b"'), (WORD, "c")])

    def test_a_backslash_takes_a_backslash(self):
        self.assertEqual(token_list('"\\\\"'), [(QUOTED, '"\\\\"')])
        self.assertEqual(token_list('"\\\\"a"'), [(QUOTED, '"\\\\"'), (WORD, "a"), (ODD, '"')])
        self.assertEqual(token_list('"\\\\\\""'), [(QUOTED, '"\\\\\\""')])

    def test_a_backslash_takes_any_other_byte(self):
        self.assertEqual(token_list('"\\n"'), [(QUOTED, '"\\n"')])
        self.assertEqual(token_list('"\\ "'), [(QUOTED, '"\\ "')])

    def test_a_backslash_before_a_line_end_or_the_end(self):
        self.assertEqual(token_list('"\\\n"'), [(ODD, '"'), (ODD, "\\"), (ODD, '"')])
        self.assertEqual(token_list('"a\\\nb"'), [(ODD, '"'), (WORD, "a"), (ODD, "\\"), (WORD, "b"), (ODD, '"')])
        self.assertEqual(token_list('"a\\'), [(ODD, '"'), (WORD, "a"), (ODD, "\\")])

    def test_a_taken_backslash_before_a_line_end(self):
        self.assertEqual(token_list('"\\\\\n"'), [(ODD, '"'), (ODD, "\\"), (ODD, "\\"), (ODD, '"')])

    def test_a_backslash_outside_takes_nothing(self):
        self.assertEqual(token_list('\\"a"'), [(ODD, "\\"), (QUOTED, '"a"')])

    def test_a_later_quote_may_close_where_an_earlier_one_is_odd(self):
        self.assertEqual(token_list('"\\"x\\y"\n'), [(QUOTED, '"\\"x\\y"')])
        self.assertEqual(token_list('"\\"\\\\"'), [(QUOTED, '"\\"\\\\"')])
        self.assertEqual(token_list('"\\"\\"'), [(ODD, '"'), (ODD, "\\"), (ODD, '"'), (ODD, "\\"), (ODD, '"')])
        self.assertEqual(token_list('"\\" "\\'), [(QUOTED, '"\\" "'), (ODD, "\\")])

    def test_an_odd_one_leaves_a_comment_behind_it(self):
        self.assertEqual(token_list('"a # b'), [(ODD, '"'), (WORD, "a")])


class Comments(unittest.TestCase):
    def test_to_the_line_end(self):
        self.assertEqual(token_list("# a b\nc"), [(WORD, "c")])
        self.assertEqual(token_list("a#b"), [(WORD, "a")])

    def test_a_quote_within_is_none(self):
        self.assertEqual(token_list('# "\na"'), [(WORD, "a"), (ODD, '"')])
        self.assertEqual(token_list('a # "b"'), [(WORD, "a")])

    def test_a_comment_within_a_comment_is_none(self):
        self.assertEqual(lead_list(last(load("# a # b"), leads(0))), [(0, "# a # b")])


class Signs(unittest.TestCase):
    def test_pairs(self):
        for pair in ("=>", "==", "!=", "<=", ">=", "&&", "||"):
            self.assertEqual(token_list(pair), [(SIGN, pair)])

    def test_lone_ones(self):
        for sign in "+-*/%<>=.,;:()[]{}!":
            self.assertEqual(token_list(sign), [(SIGN, sign)])

    def test_halves(self):
        self.assertEqual(token_list("= >"), [(SIGN, "="), (SIGN, ">")])
        self.assertEqual(token_list("! ="), [(SIGN, "!"), (SIGN, "=")])
        self.assertEqual(token_list("&"), [(ODD, "&")])
        self.assertEqual(token_list("|"), [(ODD, "|")])
        self.assertEqual(token_list("& &"), [(ODD, "&"), (ODD, "&")])
        self.assertEqual(token_list("&|"), [(ODD, "&"), (ODD, "|")])
        self.assertEqual(token_list("|\n|"), [(ODD, "|"), (ODD, "|")])

    def test_three_in_a_row(self):
        self.assertEqual(token_list("==="), [(SIGN, "=="), (SIGN, "=")])
        self.assertEqual(token_list("==>"), [(SIGN, "=="), (SIGN, ">")])
        self.assertEqual(token_list("&&&"), [(SIGN, "&&"), (ODD, "&")])
        self.assertEqual(token_list("<=>"), [(SIGN, "<="), (SIGN, ">")])

    def test_turned_round_they_are_no_pairs(self):
        self.assertEqual(token_list("=<"), [(SIGN, "="), (SIGN, "<")])
        self.assertEqual(token_list("=!"), [(SIGN, "="), (SIGN, "!")])
        self.assertEqual(token_list("<>"), [(SIGN, "<"), (SIGN, ">")])
        self.assertEqual(token_list("!!"), [(SIGN, "!"), (SIGN, "!")])


class EachByte(unittest.TestCase):
    def test_kinds(self):
        signs = row("+-*/%<>=.,;:()[]{}!")
        for byte in range(256):
            given = last(load([byte]), tokens())
            sign = chr(byte)
            if byte in (10, 32, 35):
                self.assertEqual(given, [0], byte)
            elif sign.isascii() and (sign.isalpha() or sign == "_"):
                self.assertEqual(given, [1, WORD, 0, 1], byte)
            elif sign.isascii() and sign.isdigit():
                self.assertEqual(given, [1, NUMBER, 0, 1], byte)
            else:
                self.assertEqual(given, [1, SIGN if byte in signs else ODD, 0, 1], byte)

    def test_odd_ones_stand_alone(self):
        odd = [0, 9, 13, 36, 39, 63, 64, 92, 94, 96, 126, 127, 128, 200, 255]
        expected = [len(odd)]
        for place in range(len(odd)):
            expected += [ODD, place, 1]
        self.assertEqual(last(load(odd), tokens()), expected)


if __name__ == "__main__":
    unittest.main()
