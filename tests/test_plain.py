"""The program beside a second, plain reading of the document, over many made-up texts and edits."""

import random
import unittest

from helper import (
    behind, edit, last, lead_list, leads, load, offset, place, plain_edit, plain_ends, plain_pieces, plain_places,
    plain_same, plain_spaced, plain_stretches, plain_things, row, same, spaced, stretch, stretches, text, token, told,
    tokens, undo,
)

ALPHABETS = (
    b'a;"\\\n #', b'a1. ;\n', b'"\\\n', b'a;\n# ', b'=<>!&|; ', b'ab;;;\n\n##  "', bytes(range(256)), b'";\\ \n',
    b"a ;\n\n\n#",
)


def made_up(chance, most):
    signs = chance.choice(ALPHABETS)
    return bytes(chance.choice(signs) for _ in range(chance.randrange(most + 1)))


def counted(part):
    return [len(part)] + list(part)


def touched(chance, whole):
    """The text with a byte more, a byte less or another byte somewhere."""
    n = chance.randrange(len(whole) + 1)
    sign = bytes([chance.choice(b" \n#;a1")]) if chance.randrange(3) else b""
    return whole[:n] + sign + whole[n + chance.randrange(2):]


class Beside(unittest.TestCase):
    def test_tokens_and_comments(self):
        chance = random.Random(1)
        for _ in range(1500):
            self.check_things(made_up(chance, 24))

    def check_things(self, whole):
        found, tail = plain_things(whole)
        count = len(found)
        given = told(load(whole), tokens(), *[token(i) for i in range(count)], *[leads(i) for i in range(count + 1)],
                     *[behind(i) for i in range(count + 1)])
        self.assertEqual(given[0], [len(plain_ends(whole)) + 1, count], whole)
        flat = [number for one in found for number in (one["kind"], one["place"], len(one["part"]))]
        self.assertEqual(given[1], [count] + flat, whole)
        for one, answer in zip(found, given[2:]):
            numbers = [one["kind"], one["place"], one["gap"], len(one["leads"]), int(one["behind"] is not None)]
            self.assertEqual(answer, numbers + list(one["part"]), whole)
        for expected, answer in zip([one["leads"] for one in found] + [tail], given[2 + count:]):
            self.assertEqual(lead_list(answer), expected, whole)
        texts = [[-4] if one["behind"] is None else counted(one["behind"]) for one in found] + [[-3]]
        self.assertEqual(given[3 + 2 * count:], texts, whole)

    def test_stretches(self):
        chance = random.Random(4)
        for _ in range(1500):
            whole = made_up(chance, 40)
            expected = plain_stretches(whole)
            given = told(load(whole), stretches(), *[stretch(k) for k in range(len(expected) + 1)])
            self.assertEqual(given[1], counted([begin + size for begin, size, _, _ in expected]), whole)
            self.assertEqual(given[2:], expected + [[-3]], whole)

    def test_places(self):
        chance = random.Random(5)
        for _ in range(1500):
            whole = made_up(chance, 30)
            expected = plain_places(whole)
            given = told(load(whole), *[place(n) for n in range(len(whole) + 2)],
                         *[offset(told_of[0], told_of[1]) for told_of in expected])
            self.assertEqual(given[1:], expected + [[-2]] + [[n] for n in range(len(whole) + 1)], whole)

    def test_offsets_that_are_none(self):
        chance = random.Random(6)
        for _ in range(300):
            whole = made_up(chance, 30)
            there = [told_of[:2] for told_of in plain_places(whole)]
            pairs = [[chance.randrange(-2, 8), chance.randrange(-2, 12)] for _ in range(60)]
            given = told(load(whole), *[offset(line, column) for line, column in pairs])
            expected = [[there.index(pair)] if pair in there else [-2] for pair in pairs]
            self.assertEqual(given[1:], expected, whole)

    def test_same(self):
        chance = random.Random(7)
        for _ in range(1500):
            whole = made_up(chance, 20)
            others = [made_up(chance, 20)] + [touched(chance, whole) for _ in range(12)]
            given = told(load(whole), *[same(other) for other in others], text())
            self.assertEqual(given[1:-1], [plain_same(whole, other) for other in others], whole)
            self.assertEqual(given[-1], counted(whole))

    def test_edits(self):
        chance = random.Random(2)
        for _ in range(800):
            self.check_edits(chance)

    def check_edits(self, chance):
        whole = made_up(chance, 40)
        calls, expected, kept = [load(whole)], [[len(plain_ends(whole)) + 1, len(token_pieces(whole))]], []
        for _ in range(12):
            if kept and chance.randrange(4) == 0:
                whole = kept.pop()
                calls.append(undo())
                expected.append([len(kept)])
            else:
                a = chance.randrange(len(whole) + 1)
                b = min(len(whole), a + chance.choice((0, 0, 1, 2, 5, 40)))
                part = made_up(chance, chance.choice((0, 1, 1, 3, 10)))
                kept.append(whole)
                calls.append(edit(a, b, part))
                new, count, cut = plain_edit(whole, a, b, part)
                expected.append([count, cut])
                whole = new
            calls += [text(), tokens(), stretches()]
            expected += [counted(whole), last(load(whole), tokens()), counted(plain_ends(whole) + [len(whole)])]
        self.assertEqual(told(*calls), expected, calls)

    def test_behind_edits_all_is_as_if_loaded(self):
        chance = random.Random(8)
        for _ in range(400):
            whole = made_up(chance, 30)
            calls = [load(whole)]
            for _ in range(4):
                a = chance.randrange(len(whole) + 1)
                b = min(len(whole), a + chance.randrange(3))
                part = made_up(chance, 4)
                calls.append(edit(a, b, part))
                whole = whole[:a] + part + whole[b:]
            asked = [text(), tokens(), stretches(), spaced(), same(whole)]
            for n in range(8):
                asked += [token(n), leads(n), behind(n), stretch(n), place(n), offset(n % 3, n // 3)]
            self.assertEqual(told(*calls, *asked)[5:], told(load(whole), *asked)[1:], calls)

    def test_spaced(self):
        chance = random.Random(3)
        for _ in range(1500):
            whole = made_up(chance, 30)
            expected = plain_spaced(whole)
            self.assertEqual(last(load(whole), spaced()), [len(expected)] + row(expected), whole)


def token_pieces(whole):
    return [piece for piece in plain_pieces(whole) if piece[0] >= 3]


if __name__ == "__main__":
    unittest.main()
