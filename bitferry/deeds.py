"""Rows of deeds: what they make of a word, and one row put behind another."""


def values(width, rows, word):
    every = (1 << width) - 1
    made = [word]
    for deed in rows:
        made.append(made_by(deed, made, every))
    return made


def answer(width, rows, word):
    made = values(width, rows, word)
    return made[-1]


def behind(first, second):
    # The second row's value 0 is the first row's last value, whose number is len(first):
    # so all its numbers of values rise by that, and no deed is needed in between.
    goes = [len(first) + number for number in range(len(second))]
    return list(first) + [renumbered(deed, goes) for deed in second]


def made_by(deed, made, every):
    name = deed[0]
    if name == "fix":
        return deed[1]
    value = made[deed[1]]
    if name == "mask":
        return value & deed[2]
    if name == "turn":
        return value ^ deed[2]
    if name == "both":
        return value ^ made[deed[2]]
    if name == "up":
        return (value << deed[2]) & every
    return value >> deed[2]


def renumbered(deed, goes):
    # Goes has, for each number of a value, the number by which the deed is to go instead.
    name = deed[0]
    if name == "fix":
        return deed
    if name == "both":
        return (name, goes[deed[1]], goes[deed[2]])
    return (name, goes[deed[1]], deed[2])
