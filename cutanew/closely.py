"""Tokens written closely: with a blank or a line end only where they'd be cut otherwise without it."""

from cutanew.pieces import BLANK_BYTE, LINE_END_BYTE, ODD, QUOTE_BYTE
from cutanew.pieces import Cutter, is_token


class Written:
    """What is written so far. A token is a pair here: its kind and its bytes."""

    def __init__(self):
        self.text = []
        self.tokens = []
        self.begins = []
        # The number of the last odd quote on the last line, or -1.
        self.open_quote = -1

    def put(self, token):
        if self.fits([], token):
            self.write([], token)
        elif self.fits([BLANK_BYTE], token):
            self.write([BLANK_BYTE], token)
        else:
            self.open_quote = -1
            self.write([LINE_END_BYTE], token)

    def fits(self, between, token):
        first = self.first_unsure(token)
        place = self.begins[first] if first < len(self.begins) else 0
        tried = self.text[place:] + between + token[1]
        return tokens_in(tried) == self.tokens[first:] + [token]

    def first_unsure(self, token):
        """The number of the first token that may be cut otherwise once token stands behind them."""
        # A number looks two bytes ahead, for a point and a digit; nothing looks farther but an
        # odd quote, and that only for another quote. Of several odd ones on a line each later
        # one is taken by a backslash, so what closes the last one is just what closes them all.
        first = max(len(self.tokens) - 2, 0)
        if self.open_quote >= 0 and QUOTE_BYTE in token[1]:
            first = min(first, self.open_quote)
        return first

    def write(self, between, token):
        if token == (ODD, [QUOTE_BYTE]):
            self.open_quote = len(self.tokens)
        self.text.extend(between)
        self.begins.append(len(self.text))
        self.text.extend(token[1])
        self.tokens.append(token)


def tokens_in(text):
    cutter = Cutter(text)
    pairs = []
    place = 0
    while place < len(text):
        piece = cutter.piece_at(place)
        if is_token(piece.kind):
            pairs.append((piece.kind, text[place:place + piece.size]))
        place += piece.size
    return pairs


def written_closely(pairs):
    written = Written()
    for pair in pairs:
        written.put(pair)
    return written.text
