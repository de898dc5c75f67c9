"""Exchanges: bits of a word that change places in pairs, and every order of the bits made by them."""


def is_good(width, exchange):
    mask = exchange[0]
    far = exchange[1]
    # N is judged first: a shift by a far greater one would make a number too long to hold.
    if far < 1 or far >= width:
        return False
    if (mask << far) >> width != 0:
        return False
    return (mask & (mask << far)) == 0


def exchanged(word, some):
    for exchange in some:
        far = exchange[1]
        # Where two bits of a pair differ, both are turned; where they are alike, nothing is to be done.
        differing = (word ^ (word >> far)) & exchange[0]
        word = word ^ differing ^ (differing << far)
    return word


def rows_by(some):
    rows = []
    for exchange in some:
        if exchange[0] != 0:
            rows = rows + deeds_of(exchange, len(rows))
    return rows


def deeds_of(exchange, given):
    mask = exchange[0]
    far = exchange[1]
    return [
        ("down", given, far),
        ("both", given, given + 1),
        ("mask", given + 2, mask),
        ("up", given + 3, far),
        ("both", given + 3, given + 4),
        ("both", given, given + 5),
    ]


def exchanges_of(width, order):
    # A part is an order of places that lie side by side, the parts one above the other. The exchanges ahead bring
    # each bit into the half of its part from which the exchanges behind fetch it; the halves are parts in turn.
    parts = [list(order)]
    ahead = []
    behind = []
    far = width // 2
    while far > 1:
        sides = [sides_of(part) for part in parts]
        ahead.append((mask_of([entering(part, side) for part, side in zip(parts, sides)]), far))
        behind.insert(0, (mask_of([leaving(side) for side in sides]), far))
        parts = halves_of(parts, sides)
        far = far // 2
    if far == 1:
        # A part of two places is exchanged or stays.
        ahead.append((mask_of([[part[0], 0] for part in parts]), 1))
    return ahead + behind


def sides_of(part):
    # For each place of the answer the half, 0 or 1, through which its bit goes. Two places that are exchanged with
    # one another must go through unlike halves, behind the halves and ahead of them: so one choice settles a round
    # of others, and each round closes at the place where it began.
    half = len(part) // 2
    goal = goals_of(part)
    sides = [None] * len(part)
    for start in range(half):
        place = start
        while sides[place] is None:
            sides[place] = 0
            sides[place ^ half] = 1
            place = goal[part[place ^ half] ^ half]
    return sides


def goals_of(part):
    goal = [0] * len(part)
    for place, source in enumerate(part):
        goal[source] = place
    return goal


def entering(part, sides):
    half = len(part) // 2
    marks = [0] * len(part)
    for place, source in enumerate(part):
        if source < half:
            marks[source] = sides[place]
    return marks


def leaving(sides):
    half = len(sides) // 2
    return sides[:half] + [0] * half


def halves_of(parts, sides):
    halves = []
    for part, side in zip(parts, sides):
        halves.append(half_of(part, side, 0))
        halves.append(half_of(part, side, 1))
    return halves


def half_of(part, sides, wanted):
    half = len(part) // 2
    sources = []
    for place in range(half):
        taken = place if sides[place] == wanted else place + half
        sources.append(part[taken] % half)
    return sources


def mask_of(some):
    # The marks, 0 or 1, of parts one above the other, as the bits of one word.
    mask = 0
    for marks in reversed(some):
        for mark in reversed(marks):
            mask = 2 * mask + mark
    return mask
