"""An object that holds a text, and the answers to calls on it."""

from cutanew.closely import written_closely
from cutanew.lines import line_and_column, place_at
from cutanew.same import first_difference
from cutanew.stretches import cut_anew, cut_whole, ends_of, kind_and_number, token_count, total_size
from cutanew.things import things_of

LOAD = 0
EDIT = 1
UNDO = 2
TEXT = 3
TOKENS = 4
TOKEN = 5
LEADS = 6
BEHIND = 7
STRETCHES = 8
STRETCH = 9
PLACE = 10
OFFSET = 11
SAME = 12
SPACED = 13

TOO_LONG = -1
NO_PLACE = -2
NO_SUCH = -3
NONE_BEHIND = -4
TOO_MANY = -8
NO_EDIT = -9

MOST_BYTES = 4000
MOST_EDITS = 16
MOST_SPACED = 200


class UnknownCall(ValueError):
    """The number of a call is none that is known."""


class Held:
    """The text that is held, and what was held before the edits that can be undone."""

    def __init__(self):
        self.now = cut_whole([])
        self.before = []

    def load(self, row):
        if len(row) > MOST_BYTES:
            return [TOO_LONG]
        self.now = cut_whole(row)
        self.before = []
        return [len(self.now.stretches), token_count(self.now.stretches)]

    def edit(self, a, b, row):
        size = len(self.now.text)
        if a < 0 or b < a or b > size:
            return [NO_PLACE]
        if size - (b - a) + len(row) > MOST_BYTES:
            return [TOO_LONG]
        self.before = (self.before + [self.now])[-MOST_EDITS:]
        self.now = cut_anew(self.now, a, b, row)
        return [len(self.now.stretches), self.now.fresh]

    def undo(self):
        if not self.before:
            return [NO_EDIT]
        self.now = self.before.pop()
        return [len(self.before)]

    def tell_text(self):
        return counted(self.now.text)

    def tell_tokens(self):
        tokens = things_of(self.now).tokens
        told = [len(tokens)]
        for token in tokens:
            told.extend([token.kind, token.begin, len(token.row)])
        return told

    def tell_token(self, i):
        tokens = things_of(self.now).tokens
        if i < 0 or i >= len(tokens):
            return [NO_SUCH]
        token = tokens[i]
        behind = 0 if token.behind is None else 1
        return [token.kind, token.begin, token.gap, len(token.leading), behind] + token.row

    def tell_leads(self, i):
        things = things_of(self.now)
        if i < 0 or i > len(things.tokens):
            return [NO_SUCH]
        comments = things.waiting
        if i < len(things.tokens):
            comments = things.tokens[i].leading
        told = [len(comments)]
        for comment in comments:
            told.append(comment.gap)
            told.extend(counted(comment.row))
        return told

    def tell_behind(self, i):
        tokens = things_of(self.now).tokens
        if i < 0 or i >= len(tokens):
            return [NO_SUCH]
        if tokens[i].behind is None:
            return [NONE_BEHIND]
        return counted(tokens[i].behind.row)

    def tell_stretches(self):
        return counted(ends_of(self.now.stretches))

    def tell_stretch(self, k):
        stretches = self.now.stretches
        if k < 0 or k >= len(stretches):
            return [NO_SUCH]
        before = stretches[:k]
        return [total_size(before), stretches[k].size, token_count(before), stretches[k].tokens]

    def tell_place(self, n):
        if n < 0 or n > len(self.now.text):
            return [NO_PLACE]
        return list(line_and_column(self.now.text, n)) + list(kind_and_number(self.now, n))

    def tell_offset(self, line, column):
        place = place_at(self.now.text, line, column)
        return [NO_PLACE] if place < 0 else [place]

    def tell_same(self, row):
        if len(row) > MOST_BYTES:
            return [TOO_LONG]
        number = first_difference(things_of(self.now), things_of(cut_whole(row)))
        return [0] if number < 0 else [1, number]

    def tell_spaced(self):
        tokens = things_of(self.now).tokens
        if len(tokens) > MOST_SPACED:
            return [TOO_MANY]
        return counted(written_closely([(token.kind, token.row) for token in tokens]))


class Calls:
    """Reads a list of calls, number by number."""

    def __init__(self, numbers):
        self.numbers = numbers
        self.place = 0

    def more(self):
        return self.place < len(self.numbers)

    def take_number(self):
        number = self.numbers[self.place]
        self.place += 1
        return number

    def take_row(self):
        size = self.take_number()
        row = self.numbers[self.place:self.place + size]
        self.place += size
        return row


def counted(row):
    return [len(row)] + row


def change(held, number, calls):
    if number == UNDO:
        return held.undo()
    if number == LOAD:
        return held.load(calls.take_row())
    a = calls.take_number()
    b = calls.take_number()
    return held.edit(a, b, calls.take_row())


def tell_of_all(held, number):
    if number == TEXT:
        return held.tell_text()
    if number == TOKENS:
        return held.tell_tokens()
    if number == STRETCHES:
        return held.tell_stretches()
    return held.tell_spaced()


def tell_of_one(held, number, which):
    if number == TOKEN:
        return held.tell_token(which)
    if number == LEADS:
        return held.tell_leads(which)
    if number == BEHIND:
        return held.tell_behind(which)
    if number == STRETCH:
        return held.tell_stretch(which)
    return held.tell_place(which)


def answer(held, calls):
    number = calls.take_number()
    if number in (LOAD, EDIT, UNDO):
        return change(held, number, calls)
    if number in (TEXT, TOKENS, STRETCHES, SPACED):
        return tell_of_all(held, number)
    if number in (TOKEN, LEADS, BEHIND, STRETCH, PLACE):
        return tell_of_one(held, number, calls.take_number())
    if number == OFFSET:
        line = calls.take_number()
        return held.tell_offset(line, calls.take_number())
    if number == SAME:
        return held.tell_same(calls.take_row())
    raise UnknownCall(f"no call has the number {number}")


def answers(calls):
    """For each call in the list, how many numbers are answered, and these."""
    held = Held()
    reader = Calls(calls)
    told = []
    while reader.more():
        numbers = answer(held, reader)
        told.append(len(numbers))
        told.extend(numbers)
    return told
