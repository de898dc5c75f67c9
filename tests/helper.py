"""What the tests share: the widths, sample words, sample deeds and rows, and point 2 told bit by bit."""

import random

WIDTHS = (1, 2, 4, 8, 16, 32, 64)
NAMES = ("fix", "mask", "turn", "both", "up", "down")


def every(width):
    return 2 ** width - 1


def sample_words(width):
    chance = random.Random(width)
    some = [0, 1, every(width), 2 ** (width - 1), every(width) - 1]
    some += [chance.randrange(2 ** width) for step in range(6)]
    return sorted(set(some))


def random_deed(chance, width, ahead, name):
    value = chance.randint(0, ahead)
    word = chance.choice((0, every(width), chance.randrange(2 ** width), chance.randrange(2 ** width)))
    if name == "fix":
        return (name, word)
    if name in ("mask", "turn"):
        return (name, value, word)
    if name == "both":
        return (name, value, chance.randint(0, ahead))
    return (name, value, chance.randint(0, width))


def random_row(seed, width, size):
    chance = random.Random(f"{seed} {width} {size}")
    return [random_deed(chance, width, ahead, chance.choice(NAMES)) for ahead in range(size)]


def bits(width, word):
    return [word // 2 ** k % 2 for k in range(width)]


def word_of(some):
    return sum(bit * 2 ** k for k, bit in enumerate(some))


def sum_of(width, one, other):
    return word_of([int(a != b) for a, b in zip(bits(width, one), bits(width, other))])


def model_value(width, deed, made):
    """Point 2 word for word, by bits and by sums, with none of Python's bit operators."""
    if deed[0] == "fix":
        return deed[1]
    value = made[deed[1]]
    if deed[0] == "mask":
        return word_of([a if m == 1 else 0 for a, m in zip(bits(width, value), bits(width, deed[2]))])
    if deed[0] == "turn":
        return sum_of(width, value, deed[2])
    if deed[0] == "both":
        return sum_of(width, value, made[deed[2]])
    if deed[0] == "up":
        return value * 2 ** deed[2] % 2 ** width
    if deed[0] == "down":
        return value // 2 ** deed[2]
    raise AssertionError(deed)


def model_values(width, rows, word):
    made = [word]
    for deed in rows:
        made.append(model_value(width, deed, made))
    return made


def goes_ahead(rows):
    """Whether each deed goes by values made ahead of it."""
    for number, deed in enumerate(rows):
        used = {"fix": (), "both": deed[1:]}.get(deed[0], deed[1:2])
        if not all(0 <= value <= number for value in used):
            return False
    return True
