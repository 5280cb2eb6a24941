"""A text cut to pieces: which piece begins at a place, and how many bytes it has."""

BLANK = 0
LINE_END = 1
COMMENT = 2
WORD = 3
NUMBER = 4
QUOTED = 5
SIGN = 6
ODD = 7
# No piece's kind: it is told in the stead of one where no byte is left.
TEXT_END = 8

LINE_END_BYTE = 10
BLANK_BYTE = 32
QUOTE_BYTE = 34
HASH_BYTE = 35
POINT_BYTE = 46
SEMICOLON_BYTE = 59
BACKSLASH_BYTE = 92
UNDERSCORE_BYTE = 95

# Told by their bytes, since the sign of the remainder, 37, may not stand within a written text.
# ! remainder ( ) * + , - . / : ; < = > [ ] { }
LONE_SIGNS = (33, 37, 40, 41, 42, 43, 44, 45, 46, 47, 58, 59, 60, 61, 62, 91, 93, 123, 125)
# => == != <= >= && ||
PAIR_SIGNS = ((61, 62), (61, 61), (33, 61), (60, 61), (62, 61), (38, 38), (124, 124))


class Piece:
    """A piece of a text; where it stands follows from the pieces before it."""

    def __init__(self, kind, size):
        self.kind = kind
        self.size = size


class Cutter:
    """Cuts one text, which stays as it is meanwhile."""

    def __init__(self, text):
        self.text = text
        # Places from which on no quote closes: kept, so that a line with
        # many quotes is not gone through to its end for each of them.
        self.unclosed = {}

    def piece_at(self, place):
        byte = self.text[place]
        if byte == BLANK_BYTE:
            return Piece(BLANK, 1)
        if byte == LINE_END_BYTE:
            return Piece(LINE_END, 1)
        if byte == HASH_BYTE:
            return Piece(COMMENT, rest_end(self.text, place) - place)
        if is_letter(byte):
            return Piece(WORD, word_end(self.text, place) - place)
        if is_digit(byte):
            return Piece(NUMBER, number_end(self.text, place) - place)
        if byte == QUOTE_BYTE:
            return self.quoted_or_odd(place)
        return sign_or_odd(self.text, place)

    def quoted_or_odd(self, place):
        closing = self.closing_quote(place + 1)
        if closing < 0:
            return Piece(ODD, 1)
        return Piece(QUOTED, closing + 1 - place)

    def closing_quote(self, place):
        """The place of the quote that closes what goes on at place, or -1."""
        passed = []
        while goes_on(self.text, place) and place not in self.unclosed:
            if self.text[place] == QUOTE_BYTE:
                return place
            passed.append(place)
            place += step_within_quotes(self.text, place)
        for dead in passed:
            self.unclosed[dead] = True
        return -1


def is_token(kind):
    return kind >= WORD


def is_letter(byte):
    return 97 <= byte <= 122 or 65 <= byte <= 90 or byte == UNDERSCORE_BYTE


def is_digit(byte):
    return 48 <= byte <= 57


def goes_on(text, place):
    """Whether a byte of the same line stands at place, its line end aside."""
    return place < len(text) and text[place] != LINE_END_BYTE


def step_within_quotes(text, place):
    if text[place] == BACKSLASH_BYTE and goes_on(text, place + 1):
        return 2
    return 1


def rest_end(text, place):
    """Where the rest of a line ends, its line end aside."""
    while goes_on(text, place):
        place += 1
    return place


def word_end(text, place):
    while place < len(text) and (is_letter(text[place]) or is_digit(text[place])):
        place += 1
    return place


def digits_end(text, place):
    while place < len(text) and is_digit(text[place]):
        place += 1
    return place


def number_end(text, place):
    end = digits_end(text, place)
    if end + 1 < len(text) and text[end] == POINT_BYTE and is_digit(text[end + 1]):
        return digits_end(text, end + 1)
    return end


def sign_or_odd(text, place):
    if place + 1 < len(text) and (text[place], text[place + 1]) in PAIR_SIGNS:
        return Piece(SIGN, 2)
    if text[place] in LONE_SIGNS:
        return Piece(SIGN, 1)
    return Piece(ODD, 1)
