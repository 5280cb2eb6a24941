"""The program beside a second, plain reading of the document, over many made-up texts and edits."""

import random
import unittest

from helper import (
    edit, last, lead_list, leads, load, plain_edit, plain_ends, plain_pieces, plain_spaced, plain_things, row, spaced,
    text, token, told, tokens, undo,
)

ALPHABETS = (
    b'a;"\\\n #', b'a1. ;\n', b'"\\\n', b'a;\n# ', b'=<>!&|; ', b'ab;;;\n\n##  "', bytes(range(256)), b'";\\ \n', b"a ;\n\n\n#",
)


def made_up(chance, most):
    signs = chance.choice(ALPHABETS)
    return bytes(chance.choice(signs) for _ in range(chance.randrange(most + 1)))


class Beside(unittest.TestCase):
    def test_tokens_and_comments(self):
        chance = random.Random(1)
        for _ in range(1500):
            self.check_things(made_up(chance, 24))

    def check_things(self, whole):
        found, tail = plain_things(whole)
        count = len(found)
        given = told(load(whole), tokens(), *[token(i) for i in range(count)], *[leads(i) for i in range(count + 1)])
        self.assertEqual(given[0], [len(plain_ends(whole)) + 1, count], whole)
        flat = [number for one in found for number in (one["kind"], one["place"], len(one["part"]))]
        self.assertEqual(given[1], [count] + flat, whole)
        for one, answer in zip(found, given[2:]):
            numbers = [one["kind"], one["place"], one["gap"], len(one["leads"]), one["behind"]]
            self.assertEqual(answer, numbers + list(one["part"]), whole)
        for expected, answer in zip([one["leads"] for one in found] + [tail], given[2 + count:]):
            self.assertEqual(lead_list(answer), expected, whole)

    def test_edits(self):
        chance = random.Random(2)
        for _ in range(800):
            self.check_edits(chance)

    def check_edits(self, chance):
        whole = made_up(chance, 40)
        calls, expected, kept = [load(whole)], [[len(plain_ends(whole)) + 1, len(token_pieces(whole))]], []
        for _ in range(12):
            if kept and chance.randrange(4) == 0:
                whole = kept.pop()
                calls.append(undo())
                expected.append([len(kept)])
            else:
                a = chance.randrange(len(whole) + 1)
                b = min(len(whole), a + chance.choice((0, 0, 1, 2, 5, 40)))
                part = made_up(chance, chance.choice((0, 1, 1, 3, 10)))
                kept.append(whole)
                calls.append(edit(a, b, part))
                new, stretches, cut = plain_edit(whole, a, b, part)
                expected.append([stretches, cut])
                whole = new
            calls += [text(), tokens()]
            expected += [[len(whole)] + list(whole), last(load(whole), tokens())]
        self.assertEqual(told(*calls), expected, calls)

    def test_spaced(self):
        chance = random.Random(3)
        for _ in range(1500):
            whole = made_up(chance, 30)
            expected = plain_spaced(whole)
            self.assertEqual(last(load(whole), spaced()), [len(expected)] + row(expected), whole)


def token_pieces(whole):
    return [piece for piece in plain_pieces(whole) if piece[0] >= 3]


if __name__ == "__main__":
    unittest.main()
