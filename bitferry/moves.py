"""Moves: each bit of the answer fetched from a place of the word; and rows for bits turned about and running sums."""

from bitferry.exchanges import rows_by
from bitferry.turned import bit


def moved(width, move, word):
    made = 0
    for place in range(width):
        made = made | (fetched(move[place], word) << place)
    return made


def fetched(source, word):
    # Where no place stands, the bit goes by no word: -1 is a bit 0, -2 a bit 1.
    if source == -1:
        return 0
    if source == -2:
        return 1
    return bit(word, source)


def move_table(width, move):
    start = moved(width, move, 0)
    return (start, [moved(width, move, 1 << place) ^ start for place in range(width)])


def move_of(width, table):
    move = [source_of(table, place) for place in range(width)]
    if None in move:
        return None
    return move


def source_of(table, place):
    sources = [source for source, column in enumerate(table[1]) if bit(column, place) == 1]
    start = bit(table[0], place)
    if len(sources) == 0:
        return -2 if start == 1 else -1
    # A bit that is summed of two, or turned by the start, is no bit of the word.
    if len(sources) > 1 or start == 1:
        return None
    return sources[0]


def about_rows(width):
    # The halves change places, then the halves of each half, and so on down to bits side by side.
    some = []
    far = width // 2
    while far > 0:
        some.append((lower_halves(width, far), far))
        far = far // 2
    return rows_by(some)


def lower_halves(width, far):
    return sum([1 << place for place in range(width) if (place & far) == 0])


def running_rows(width):
    # Each round doubles how many bits, a place's own and those next below it, are summed at the place.
    rows = []
    far = 1
    while far < width:
        rows = rows + summed_above(len(rows), far)
        far = 2 * far
    return rows


def undone_rows(width):
    # Two running sums side by side differ by one bit of the word. For WIDTH 1 nothing is left of what goes up by 1.
    return summed_above(0, 1)


def summed_above(given, far):
    return [("up", given, far), ("both", given, given + 1)]
