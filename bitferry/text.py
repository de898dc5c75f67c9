"""Rows of deeds written as lines, and such lines read."""

from bitferry.errors import NoDeed

FIGURES = "0123456789"


def shown(rows):
    return [line_of(deed) for deed in rows]


def read(width, lines):
    rows = []
    for line in lines:
        rows.append(deed_of(width, line, len(rows)))
    return rows


def line_of(deed):
    return " ".join([str(part) for part in deed])


def deed_of(width, line, ahead):
    # Split at each single blank: a blank too many leaves an empty part, which is no number and no name.
    parts = line.split(" ")
    bounds = bounds_of(width, parts[0], ahead)
    if len(parts) != len(bounds) + 1:
        raise NoDeed(f"too few or too many numbers: {line!r}")
    numbers = [number_of(part, most) for part, most in zip(parts[1:], bounds)]
    return tuple([parts[0]] + numbers)


def bounds_of(width, name, ahead):
    every = (1 << width) - 1
    if name == "fix":
        return [every]
    if name in ("mask", "turn"):
        return [ahead, every]
    if name == "both":
        return [ahead, ahead]
    if name in ("up", "down"):
        return [ahead, width]
    raise NoDeed(f"no deed is called {name!r}")


def number_of(part, most):
    if not is_number(part):
        raise NoDeed(f"no number: {part!r}")
    # Python itself refuses to read a number of very many figures, so the length is judged first.
    if len(part) > len(str(most)) or int(part) > most:
        raise NoDeed(f"beyond {most}: {part!r}")
    return int(part)


def is_number(part):
    if part == "" or (part[0] == "0" and part != "0"):
        return False
    return all([sign in FIGURES for sign in part])
