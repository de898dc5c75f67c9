"""What the tests share: the widths, sample words, sample deeds and rows, and point 2 told bit by bit."""

import random

WIDTHS = (1, 2, 4, 8, 16, 32, 64)
NAMES = ("fix", "mask", "turn", "both", "up", "down")
TIMES_TWO = {1: 0, 2: 1, 4: 2, 8: 3, 16: 4, 32: 5, 64: 6}


def every(width):
    return 2 ** width - 1


def sample_words(width):
    chance = random.Random(width)
    some = [0, 1, every(width), 2 ** (width - 1), every(width) - 1]
    some += [chance.randrange(2 ** width) for step in range(6)]
    return sorted(set(some))


def settling_words(width):
    """0, each bit alone, every bit and some others: the first ones settle what sums without carrying for all words."""
    return sorted({0} | {2 ** place for place in range(width)} | set(sample_words(width)))


def random_deed(chance, width, ahead, name):
    value = chance.randint(0, ahead)
    word = chance.choice((0, every(width), chance.randrange(2 ** width), chance.randrange(2 ** width)))
    if name == "fix":
        return (name, word)
    if name in ("mask", "turn"):
        return (name, value, word)
    if name == "both":
        return (name, value, chance.randint(0, ahead))
    return (name, value, chance.randint(0, width))


def random_row(seed, width, size):
    chance = random.Random(f"{seed} {width} {size}")
    return [random_deed(chance, width, ahead, chance.choice(NAMES)) for ahead in range(size)]


def bits(width, word):
    return [word // 2 ** k % 2 for k in range(width)]


def word_of(some):
    return sum(bit * 2 ** k for k, bit in enumerate(some))


def sum_of(width, one, other):
    return word_of([int(a != b) for a, b in zip(bits(width, one), bits(width, other))])


def model_value(width, deed, made):
    """Point 2 word for word, by bits and by sums, with none of Python's bit operators."""
    if deed[0] == "fix":
        return deed[1]
    value = made[deed[1]]
    if deed[0] == "mask":
        return word_of([a if m == 1 else 0 for a, m in zip(bits(width, value), bits(width, deed[2]))])
    if deed[0] == "turn":
        return sum_of(width, value, deed[2])
    if deed[0] == "both":
        return sum_of(width, value, made[deed[2]])
    if deed[0] == "up":
        return value * 2 ** deed[2] % 2 ** width
    if deed[0] == "down":
        return value // 2 ** deed[2]
    raise AssertionError(deed)


def model_values(width, rows, word):
    made = [word]
    for deed in rows:
        made.append(model_value(width, deed, made))
    return made


def goes_ahead(rows):
    """Whether each deed goes by values made ahead of it."""
    for number, deed in enumerate(rows):
        used = {"fix": (), "both": deed[1:]}.get(deed[0], deed[1:2])
        if not all(0 <= value <= number for value in used):
            return False
    return True


def random_words(seed, width, size):
    chance = random.Random(f"{seed} {width} {size}")
    return [chance.randrange(2 ** width) for step in range(size)]


def random_table(seed, width):
    some = random_words(f"table {seed}", width, width + 1)
    return (some[0], some[1:])


def model_told(width, table, word):
    """Point 6 word for word: START summed with the columns of the bits that are 1."""
    total = table[0]
    for column, bit in zip(table[1], bits(width, word)):
        if bit == 1:
            total = sum_of(width, total, column)
    return total


def places(width, mask):
    return [place for place, mark in enumerate(bits(width, mask)) if mark == 1]


def model_pressed(width, word, mask):
    made = [bits(width, word)[place] for place in places(width, mask)]
    return word_of(made)


def model_spread(width, word, mask):
    made = [0] * width
    for place, bit in zip(places(width, mask), bits(width, word)):
        made[place] = bit
    return word_of(made)


def model_about(width, word):
    return word_of(bits(width, word)[::-1])


def model_running(width, word):
    return word_of([sum(bits(width, word)[:place + 1]) % 2 for place in range(width)])


def is_word(width, word):
    return type(word) is int and 0 <= word <= every(width)


def is_table(width, table):
    if type(table) is not tuple or len(table) != 2 or type(table[1]) is not list or len(table[1]) != width:
        return False
    return all(is_word(width, word) for word in [table[0]] + table[1])


def is_deed(width, deed):
    if type(deed) is not tuple or len(deed) != (2 if deed[0] == "fix" else 3):
        return False
    if not all(type(number) is int and number >= 0 for number in deed[1:]):
        return False
    most = {"fix": every(width), "mask": every(width), "turn": every(width), "both": 1000, "up": width, "down": width}
    return deed[0] in most and deed[-1] <= most[deed[0]]


def is_row(width, rows):
    """Whether this is a row of deeds by point 2."""
    if type(rows) is not list or len(rows) > 1000:
        return False
    return all(is_deed(width, deed) for deed in rows) and goes_ahead(rows)
