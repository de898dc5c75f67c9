"""The lines of a desk: parted, with what stands in them read and judged."""

from bitferry.errors import NoDeed, NoLine, NoOrder
from bitferry.text import is_number

WIDTHS = (1, 2, 4, 8, 16, 32, 64)
MOST_FIGURES = 20
WORDS_ALONE = ("about", "running", "back", "lost")
WORDS_WITH_NUMBER = ("press", "spread", "give")


def asked_of(line):
    # Told is a pair: the first word, and what stands behind it: None, a number, a list of places, or lines of deeds.
    # Split at each single blank: a blank too many leaves an empty word.
    words = line.split(" ")
    if "" in words:
        raise NoLine(f"a blank too many, or nothing: {line!r}")
    name = words[0]
    rest = words[1:]
    if name == "same":
        return (name, lines_in(rest))
    if name == "do" and len(rest) > 0:
        return (name, " ".join(rest))
    if name in WORDS_ALONE and len(rest) == 0:
        return (name, None)
    if len(rest) == 1:
        return (name, one_in(name, rest[0]))
    raise NoLine(f"no such line: {line!r}")


def one_in(name, part):
    if name == "width":
        return width_in(part)
    if name == "order":
        return [number_in(place) for place in part.split(",")]
    if name in WORDS_WITH_NUMBER:
        return number_in(part)
    raise NoLine(f"no such line of two words: {name!r}")


def width_in(part):
    number = number_in(part)
    if number not in WIDTHS:
        raise NoLine(f"no width: {part!r}")
    return number


def number_in(part):
    if not is_number(part) or len(part) > MOST_FIGURES:
        raise NoLine(f"no number, or one of too many figures: {part!r}")
    return int(part)


def lines_in(words):
    # No words are no line; else each word / parts two lines, which may be empty.
    if len(words) == 0:
        return []
    lines = []
    parts = []
    for word in words:
        if word == "/":
            lines.append(" ".join(parts))
            parts = []
        else:
            parts.append(word)
    return lines + [" ".join(parts)]


def word_for(width, number):
    if (number >> width) != 0:
        raise NoDeed(f"too great for width {width}: {number}")
    return number


def order_for(width, places):
    if sorted(places) != list(range(width)):
        raise NoOrder(f"not each place of width {width} once")
    return places
