"""Tables: what a row of deeds does to every word, told by its answer for 0 and one word for each bit."""

from bitferry.deeds import answer


def table_of(width, rows):
    start = answer(width, rows, 0)
    return (start, [answer(width, rows, 1 << place) ^ start for place in range(width)])


def told(table, word):
    total = table[0]
    for place, column in enumerate(table[1]):
        if ((word >> place) & 1) == 1:
            total = total ^ column
    return total


def joined(first, second):
    # Between two answers of the first, START cancels out: so its columns go through the second's columns alone.
    without_start = (0, second[1])
    return (told(second, first[0]), [told(without_start, column) for column in first[1]])


def unlike(one, other):
    if one[0] != other[0]:
        return 0
    # With like starts and like columns below a place, all words below its worth are told alike.
    for place, columns in enumerate(zip(one[1], other[1])):
        if columns[0] != columns[1]:
            return 1 << place
    return None


def rows_of(width, table):
    # There are 2 * width - 1 distances by which a bit can rise. Each takes a mask, a shift and a sum;
    # the distance 0 needs no shift and the first one no sum: 6 * width - 4 deeds at most, the turn counted.
    rows = []
    for rise in range(1 - width, width):
        mask = risers(table[1], rise)
        if mask != 0:
            rows = rows + risen(mask, rise, len(rows))
    if len(rows) == 0:
        return [("fix", table[0])]
    if table[0] != 0:
        rows.append(("turn", len(rows), table[0]))
    return rows


def risers(columns, rise):
    mask = 0
    for place, column in enumerate(columns):
        if place + rise >= 0 and ((column >> (place + rise)) & 1) == 1:
            mask = mask | (1 << place)
    return mask


def risen(mask, rise, ahead):
    # The value number ahead holds the sum so far; value 0 is the word itself, and means that there is no sum yet.
    deeds = [("mask", 0, mask)]
    if rise > 0:
        deeds.append(("up", ahead + 1, rise))
    if rise < 0:
        deeds.append(("down", ahead + 1, -rise))
    if ahead > 0:
        deeds.append(("both", ahead, ahead + len(deeds)))
    return deeds
