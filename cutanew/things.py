"""The things of a text: its tokens, and the comments that are with each of them."""

from cutanew.pieces import BLANK_BYTE, COMMENT, LINE_END, is_token


class Comment:
    def __init__(self, row, gap):
        self.row = row
        self.gap = gap


class Token:
    def __init__(self, kind, begin, row, gap, leading):
        self.kind = kind
        self.begin = begin
        self.row = row
        self.gap = gap
        self.leading = leading
        self.behind = None


class Things:
    """The things of a text, gathered piece by piece."""

    def __init__(self):
        self.tokens = []
        # Comments whose token has not come yet: at the text's end, the tail's.
        self.waiting = []
        # Line ends since the last thing.
        self.line_ends = 0
        self.begun = False

    def take(self, piece, text, place):
        row = text[place:place + piece.size]
        if piece.kind == LINE_END:
            self.line_ends += 1
        elif piece.kind == COMMENT:
            self.take_comment(Comment(without_last_blanks(row), self.gap_here()))
        elif is_token(piece.kind):
            self.take_token(Token(piece.kind, place, row, self.gap_here(), self.waiting))

    def gap_here(self):
        return 1 if self.begun and self.line_ends >= 2 else 0

    def take_comment(self, comment):
        # Behind a comment there's a line end before anything else, so
        # the thing before this one, if on the same line, is a token.
        if self.begun and self.line_ends == 0:
            self.tokens[-1].behind = comment
        else:
            self.waiting.append(comment)
        self.go_on()

    def take_token(self, token):
        self.tokens.append(token)
        self.waiting = []
        self.go_on()

    def go_on(self):
        self.line_ends = 0
        self.begun = True


def things_of(cut):
    things = Things()
    place = 0
    for stretch in cut.stretches:
        for piece in stretch.pieces:
            things.take(piece, cut.text, place)
            place += piece.size
    return things


def without_last_blanks(row):
    end = len(row)
    while row[end - 1] == BLANK_BYTE:
        end -= 1
    return row[:end]
