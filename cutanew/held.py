"""An object that holds a text, and the answers to calls on it."""

from cutanew.closely import written_closely
from cutanew.stretches import cut_anew, cut_whole
from cutanew.things import things_of

LOAD = 0
EDIT = 1
UNDO = 2
TEXT = 3
TOKENS = 4
TOKEN = 5
LEADS = 6
SPACED = 13

TOO_LONG = -1
NO_PLACE = -2
NO_TOKEN = -3
TOO_MANY = -8
NO_EDIT = -9

MOST_BYTES = 4000
MOST_EDITS = 16
MOST_SPACED = 200


class UnknownCall(ValueError):
    """The number of a call is none that is known."""


class Held:
    """The text that is held, and what was held before the edits that can be undone."""

    def __init__(self):
        self.now = cut_whole([])
        self.before = []

    def load(self, row):
        if len(row) > MOST_BYTES:
            return [TOO_LONG]
        self.now = cut_whole(row)
        self.before = []
        tokens = sum([stretch.tokens for stretch in self.now.stretches])
        return [len(self.now.stretches), tokens]

    def edit(self, a, b, row):
        size = len(self.now.text)
        if a < 0 or b < a or b > size:
            return [NO_PLACE]
        if size - (b - a) + len(row) > MOST_BYTES:
            return [TOO_LONG]
        self.before = (self.before + [self.now])[-MOST_EDITS:]
        self.now = cut_anew(self.now, a, b, row)
        return [len(self.now.stretches), self.now.fresh]

    def undo(self):
        if not self.before:
            return [NO_EDIT]
        self.now = self.before.pop()
        return [len(self.before)]

    def tell_text(self):
        return counted(self.now.text)

    def tell_tokens(self):
        tokens = things_of(self.now).tokens
        told = [len(tokens)]
        for token in tokens:
            told.extend([token.kind, token.begin, len(token.row)])
        return told

    def tell_token(self, i):
        tokens = things_of(self.now).tokens
        if i < 0 or i >= len(tokens):
            return [NO_TOKEN]
        token = tokens[i]
        behind = 0 if token.behind is None else 1
        return [token.kind, token.begin, token.gap, len(token.leading), behind] + token.row

    def tell_leads(self, i):
        things = things_of(self.now)
        if i < 0 or i > len(things.tokens):
            return [NO_TOKEN]
        comments = things.waiting
        if i < len(things.tokens):
            comments = things.tokens[i].leading
        told = [len(comments)]
        for comment in comments:
            told.append(comment.gap)
            told.extend(counted(comment.row))
        return told

    def tell_spaced(self):
        tokens = things_of(self.now).tokens
        if len(tokens) > MOST_SPACED:
            return [TOO_MANY]
        return counted(written_closely([(token.kind, token.row) for token in tokens]))


class Calls:
    """Reads a list of calls, number by number."""

    def __init__(self, numbers):
        self.numbers = numbers
        self.place = 0

    def more(self):
        return self.place < len(self.numbers)

    def take_number(self):
        number = self.numbers[self.place]
        self.place += 1
        return number

    def take_row(self):
        size = self.take_number()
        row = self.numbers[self.place:self.place + size]
        self.place += size
        return row


def counted(row):
    return [len(row)] + row


def answer(held, calls):
    number = calls.take_number()
    if number == LOAD:
        return held.load(calls.take_row())
    if number == EDIT:
        a = calls.take_number()
        b = calls.take_number()
        return held.edit(a, b, calls.take_row())
    if number == UNDO:
        return held.undo()
    if number == TEXT:
        return held.tell_text()
    if number == TOKENS:
        return held.tell_tokens()
    if number == TOKEN:
        return held.tell_token(calls.take_number())
    if number == LEADS:
        return held.tell_leads(calls.take_number())
    if number == SPACED:
        return held.tell_spaced()
    raise UnknownCall(f"no call has the number {number}")


def answers(calls):
    """For each call in the list, how many numbers are answered, and these."""
    held = Held()
    reader = Calls(calls)
    told = []
    while reader.more():
        numbers = answer(held, reader)
        told.append(len(numbers))
        told.extend(numbers)
    return told
