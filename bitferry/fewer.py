"""Rows made fewer: deeds that make nothing new, and deeds that nobody uses, left out."""

from bitferry.deeds import renumbered, values


def fewer(width, rows):
    marks = marks_of(width, rows)
    first = firsts_of(marks)
    # Each deed goes by the first values of their marks, and only these are made: so no value is made twice, and of
    # the deeds that the form rules out none is left, since each makes a value that is there already, or a fixed one.
    plain = [plain_of(deed, mark, first) for deed, mark in zip(rows, marks[1:])]
    return only_used(plain, first[-1])


def marks_of(width, rows):
    # A value's mark is what it is for 0 and for each bit alone: as rows sum without carrying, values of one mark are
    # the same for all words.
    words = [0] + [1 << place for place in range(width)]
    made = [values(width, rows, word) for word in words]
    return [mark_of(made, number) for number in range(len(rows) + 1)]


def mark_of(made, number):
    return tuple([some[number] for some in made])


def firsts_of(marks):
    # For each value the number of the first one that has its mark.
    known = {}
    for number, mark in enumerate(marks):
        if mark not in known:
            known[mark] = number
    return [known[mark] for mark in marks]


def plain_of(deed, mark, first):
    if all([word == mark[0] for word in mark]):
        return ("fix", mark[0])
    return renumbered(deed, first)


def only_used(rows, last):
    used = used_for(rows, last)
    kept = []
    goes = {0: 0}
    for number in range(1, last + 1):
        if number in used:
            kept.append(renumbered(rows[number - 1], goes))
            goes[number] = len(kept)
    return kept


def used_for(rows, last):
    # Deeds go by values ahead alone: from the last one down, all users of a value are seen before the value itself.
    used = {last: True}
    for number in range(last, 0, -1):
        if number in used:
            for ahead in used_by(rows[number - 1]):
                used[ahead] = True
    return used


def used_by(deed):
    if deed[0] == "fix":
        return []
    if deed[0] == "both":
        return [deed[1], deed[2]]
    return [deed[1]]
