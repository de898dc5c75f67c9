"""Rows of deeds: what they make of a word, and one row put behind another."""


def values(width, rows, word):
    every = (1 << width) - 1
    made = [word]
    for deed in rows:
        made.append(made_by(deed, made, every))
    return made


def answer(width, rows, word):
    made = values(width, rows, word)
    return made[-1]


def behind(first, second):
    # The second row's value 0 is the first row's last value, whose number is len(first):
    # so all its numbers of values rise by that, and no deed is needed in between.
    rise = len(first)
    return list(first) + [raised(deed, rise) for deed in second]


def made_by(deed, made, every):
    name = deed[0]
    if name == "fix":
        return deed[1]
    value = made[deed[1]]
    if name == "mask":
        return value & deed[2]
    if name == "turn":
        return value ^ deed[2]
    if name == "both":
        return value ^ made[deed[2]]
    if name == "up":
        return (value << deed[2]) & every
    return value >> deed[2]


def raised(deed, rise):
    name = deed[0]
    if name == "fix":
        return deed
    if name == "both":
        return (name, deed[1] + rise, deed[2] + rise)
    return (name, deed[1] + rise, deed[2])
