"""Whether two texts have the same things, and where they differ first."""


def first_difference(some, others):
    """The number of the first token that differs or that one text alone has; how many tokens
    there are, if just the tails differ; -1 if nothing does."""
    both = min(len(some.tokens), len(others.tokens))
    for number in range(both):
        if what_counts(some.tokens[number]) != what_counts(others.tokens[number]):
            return number
    if len(some.tokens) != len(others.tokens) or rows_of(some.waiting) != rows_of(others.waiting):
        return both
    return -1


def what_counts(token):
    """What two tokens must have alike: gaps and places are not among it."""
    behind = None if token.behind is None else token.behind.row
    return (token.kind, token.row, rows_of(token.leading), behind)


def rows_of(comments):
    return [comment.row for comment in comments]
