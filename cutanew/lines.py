"""Lines and columns of a text's places."""

from cutanew.pieces import LINE_END_BYTE, rest_end


def line_begin(text, place):
    """Where the line begins in which a place stands."""
    while place > 0 and text[place - 1] != LINE_END_BYTE:
        place -= 1
    return place


def line_begins(text):
    """Where each line begins; the last one may have no bytes."""
    return [0] + [place + 1 for place, byte in enumerate(text) if byte == LINE_END_BYTE]


def line_and_column(text, place):
    return (text[:place].count(LINE_END_BYTE), place - line_begin(text, place))


def place_at(text, line, column):
    """The place that has this line and column, or -1."""
    begins = line_begins(text)
    if line < 0 or line >= len(begins) or column < 0:
        return -1
    place = begins[line] + column
    # A line's last place is before its line end: the one behind it is the next line's first.
    if place > rest_end(text, begins[line]):
        return -1
    return place
