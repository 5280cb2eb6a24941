"""Builds calls, takes answers apart, and holds a second, plain reading of the document to compare with."""

import itertools
import re

from cutanew.held import answers

BIG = 10 ** 18


def row(text):
    """A text as a list of bytes; a str stands for the bytes of its signs."""
    if isinstance(text, str):
        text = text.encode("latin-1")
    return list(text)


def load(text):
    return [0, len(row(text))] + row(text)


def edit(a, b, text):
    return [1, a, b, len(row(text))] + row(text)


def undo():
    return [2]


def text():
    return [3]


def tokens():
    return [4]


def token(i):
    return [5, i]


def leads(i):
    return [6, i]


def behind(i):
    return [7, i]


def stretches():
    return [8]


def stretch(k):
    return [9, k]


def place(n):
    return [10, n]


def offset(line, column):
    return [11, line, column]


def same(text):
    return [12, len(row(text))] + row(text)


def spaced():
    return [13]


def told(*calls):
    """The answers to the calls, a list for each."""
    numbers = [number for call in calls for number in call]
    before = list(numbers)
    given = answers(numbers)
    if numbers != before:
        raise AssertionError("the list handed in was changed")
    parts = apart(given)
    if len(parts) != len(calls):
        raise AssertionError(f"{len(calls)} calls, {len(parts)} answers")
    return parts


def apart(given):
    if type(given) is not list or any(type(number) is not int for number in given):
        raise AssertionError("not a list of whole numbers")
    parts = []
    begin = 0
    while begin < len(given):
        size = given[begin]
        part = given[begin + 1:begin + 1 + size]
        if size < 1 or len(part) != size:
            raise AssertionError("a count is wrong")
        parts.append(part)
        begin += 1 + size
    return parts


def last(*calls):
    """The answer to the last one of the calls."""
    return told(*calls)[-1]


def token_list(text):
    """The tokens of a text, as the program tells them: pairs of a kind and the bytes."""
    given = last(load(text), tokens())
    whole = bytes(row(text))
    triples = [given[k:k + 3] for k in range(1, len(given), 3)]
    if len(triples) != given[0]:
        raise AssertionError("the count of tokens is wrong")
    return [(kind, whole[begin:begin + size].decode("latin-1")) for kind, begin, size in triples]


def lead_list(given):
    """An answer of leads, taken apart: pairs of a gap and a text."""
    pairs = []
    begin = 1
    while begin < len(given):
        size = given[begin + 1]
        pairs.append((given[begin], bytes(given[begin + 2:begin + 2 + size]).decode("latin-1")))
        begin += 2 + size
    if len(pairs) != given[0]:
        raise AssertionError("the count of comments is wrong")
    return pairs


# The plain reading. Each alternative's number is its kind.
PIECE = re.compile(
    rb'( )|(\n)|(#[^\n]*)|([A-Za-z_][A-Za-z_0-9]*)|([0-9]+(?:\.[0-9]+)?)'
    rb'|("(?:[^"\\\n]|\\[^\n])*")|(=>|==|!=|<=|>=|&&|\|\||[-+*/%<>=.,;:()\[\]{}!])|(.)',
    re.DOTALL,
)


def plain_pieces(whole):
    """Triples of a kind, a place and the bytes."""
    return [(found.lastindex - 1, found.start(), found.group()) for found in PIECE.finditer(whole)]


def plain_ends(whole):
    """Where the stretches end, the tail not among them."""
    ends = []
    for kind, begin, part in plain_pieces(whole):
        if kind == 6 and part == b";":
            comment = re.compile(rb" *#[^\n]*").match(whole, begin + 1)
            ends.append(comment.end() if comment else begin + 1)
    return ends


def plain_stretches(whole):
    """Of each stretch what the call tells."""
    ends = plain_ends(whole) + [len(whole)]
    begins = [begin for kind, begin, _ in plain_pieces(whole) if kind >= 3]
    return [
        [a, b - a, sum(begin < a for begin in begins), sum(a <= begin < b for begin in begins)]
        for a, b in zip([0] + ends, ends)
    ]


def plain_places(whole):
    """Of each place what the call tells."""
    told_of = []
    number = -1
    for kind, begin, part in plain_pieces(whole):
        number += kind >= 3
        for n in range(begin, begin + len(part)):
            told_of.append(plain_line(whole, n) + [kind, number if kind >= 3 else -1])
    return told_of + [plain_line(whole, len(whole)) + [8, -1]]


def plain_line(whole, n):
    parts = whole[:n].split(b"\n")
    return [len(parts) - 1, len(parts[-1])]


def plain_same(one, other):
    """What same tells of two texts."""
    found_one, tail_one = plain_things(one)
    found_other, tail_other = plain_things(other)
    rows_one = [plain_counts(found) for found in found_one]
    rows_other = [plain_counts(found) for found in found_other]
    for number, (row_one, row_other) in enumerate(itertools.zip_longest(rows_one, rows_other)):
        if row_one != row_other:
            return [1, number]
    if [part for _, part in tail_one] != [part for _, part in tail_other]:
        return [1, len(rows_one)]
    return [0]


def plain_counts(found):
    return found["kind"], found["part"], [part for _, part in found["leads"]], found["behind"]


def plain_edit(whole, a, b, part):
    """The new text, how many stretches it has, how many bytes were cut."""
    new = whole[:a] + part + whole[b:]
    longer = len(new) - len(whole)
    old_ends = plain_ends(whole)
    line = whole.rfind(b"\n", 0, a) + 1
    begin = max([0] + [end for end in old_ends if end < line])
    stops = [
        end for end in plain_ends(new)
        if end > begin and end >= a + len(part) and end - longer in old_ends
    ]
    end = stops[0] if stops else len(new)
    return new, len(plain_ends(new)) + 1, end - begin


def plain_things(whole):
    """A dict for each token, and the tail's comments."""
    found = []
    waiting = []
    things = [piece for piece in plain_pieces(whole) if piece[0] >= 2]
    for number, (kind, begin, part) in enumerate(things):
        gap, near = 0, False
        if number:
            kind_before, begin_before, part_before = things[number - 1]
            lines = whole.count(b"\n", begin_before + len(part_before), begin)
            gap = int(lines >= 2)
            near = lines == 0 and kind_before >= 3
        if kind >= 3:
            found.append({"kind": kind, "place": begin, "part": part, "gap": gap, "leads": waiting, "behind": None})
            waiting = []
        elif near:
            found[-1]["behind"] = part.rstrip(b" ")
        else:
            waiting.append((gap, part.rstrip(b" ").decode("latin-1")))
    return found, waiting


def plain_spaced(whole):
    wanted = [(kind, part) for kind, _, part in plain_pieces(whole) if kind >= 3]
    written = b""
    for number, (_, part) in enumerate(wanted):
        for between in (b"", b" ", b"\n"):
            tried = written + between + part
            if [(kind, piece) for kind, _, piece in plain_pieces(tried) if kind >= 3] == wanted[:number + 1]:
                written = tried
                break
        else:
            raise AssertionError("nothing fits")
    return written
