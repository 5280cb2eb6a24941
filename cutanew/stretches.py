"""A text parted into stretches, and what of them is cut anew behind an edit."""

from cutanew.lines import line_begin
from cutanew.pieces import BLANK, COMMENT, SEMICOLON_BYTE, SIGN, TEXT_END
from cutanew.pieces import Cutter, is_token


class Stretch:
    """The pieces of a stretch. It knows no places, so an edit before it leaves it as it is."""

    def __init__(self, pieces, closed):
        self.pieces = pieces
        # The tail alone is not closed by a semicolon.
        self.closed = closed
        self.size = sum([piece.size for piece in pieces])
        self.tokens = len([piece for piece in pieces if is_token(piece.kind)])


class Cut:
    """A text, its stretches, and how many bytes were cut to get them. None of it is changed later."""

    def __init__(self, text, stretches, fresh):
        self.text = text
        self.stretches = stretches
        self.fresh = fresh


def cut_whole(text):
    return Cut(text, cut_from(text, 0, {}), len(text))


def cut_anew(cut, a, b, row):
    """The cut of the text in which the bytes from a to b have become those of row."""
    text = cut.text[:a] + row + cut.text[b:]
    kept = kept_stretches(cut, a)
    begin = total_size(kept)
    known = known_ends(cut, b, len(text) - len(cut.text))
    fresh = cut_from(text, begin, known)
    end = begin + total_size(fresh)
    rest = []
    if fresh[-1].closed:
        rest = cut.stretches[known[end]:]
    return Cut(text, kept + fresh + rest, end - begin)


def kept_stretches(cut, a):
    begin = line_begin(cut.text, a)
    # The tail never ends before a line's begin, so it is never kept.
    return [stretch for stretch, end in zip(cut.stretches, ends_of(cut.stretches)) if end < begin]


def known_ends(cut, b, longer):
    """Where stretches behind b end once the text is longer by so much; with each, how many there were up to it."""
    known = {}
    for number, end in enumerate(ends_of(cut.stretches)):
        if cut.stretches[number].closed and end >= b:
            known[end + longer] = number + 1
    return known


def cut_from(text, place, known):
    """The stretches from a place on, up to the first that ends at a known end, else all with the tail."""
    cutter = Cutter(text)
    stretches = []
    while True:
        stretch = cut_stretch(cutter, place)
        stretches.append(stretch)
        place += stretch.size
        if not stretch.closed or place in known:
            return stretches


def cut_stretch(cutter, place):
    pieces = []
    while place < len(cutter.text):
        piece = cutter.piece_at(place)
        pieces.append(piece)
        if piece.kind == SIGN and cutter.text[place] == SEMICOLON_BYTE:
            return Stretch(pieces + comment_behind(cutter, place + 1), True)
        place += piece.size
    return Stretch(pieces, False)


def comment_behind(cutter, place):
    """The blanks from a place on and the comment behind them; nothing if no comment stands there."""
    pieces = []
    while place < len(cutter.text):
        piece = cutter.piece_at(place)
        pieces.append(piece)
        if piece.kind == COMMENT:
            return pieces
        if piece.kind != BLANK:
            return []
        place += piece.size
    return []


def total_size(stretches):
    return sum([stretch.size for stretch in stretches])


def ends_of(stretches):
    ends = []
    place = 0
    for stretch in stretches:
        place += stretch.size
        ends.append(place)
    return ends


def token_count(stretches):
    return sum([stretch.tokens for stretch in stretches])


def kind_and_number(cut, place):
    """Of the piece that has the byte right behind a place: its kind, and its number among the tokens or -1."""
    end = 0
    number = 0
    for stretch in cut.stretches:
        for piece in stretch.pieces:
            end += piece.size
            if place < end:
                return (piece.kind, number if is_token(piece.kind) else -1)
            if is_token(piece.kind):
                number += 1
    return (TEXT_END, -1)
