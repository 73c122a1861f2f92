"""Rows within one another: of blocks, and of inlines."""


def rows_in_block(block):
    """The list of the rows of blocks right in a block."""
    if block[0] == "quote":
        return [block[1]]
    if block[0] == "list":
        return list(block[4])
    return []


def rows_in_inline(inline):
    """The list of the rows of inlines right in an inline."""
    if inline[0] in ("emph", "strong"):
        return [inline[1]]
    if inline[0] in ("link", "image"):
        return [inline[3]]
    return []


def folded(row, rows_in, made):
    """What made(row, inner) returns for a row.

    For each one in the row inner has the list of what made returned for the
    rows that rows_in finds right in it. No function calls itself here, as rows
    may stand in one another as deep as they like.
    """
    rows = [row]
    places = []
    while len(places) < len(rows):
        numbers = []
        current = rows[len(places)]
        for one in current:
            begin = len(rows)
            rows.extend(rows_in(one))
            numbers.append((begin, len(rows)))
        places.append(numbers)
    results = [None] * len(rows)
    for number in reversed(range(len(rows))):
        inner = [results[begin:end] for begin, end in places[number]]
        results[number] = made(rows[number], inner)
    return results[0]
