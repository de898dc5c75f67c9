"""Words pressed and spread by a mask, bit by bit and as rows of deeds."""


def pressed(width, word, mask):
    made = 0
    for rank, place in enumerate(places_of(width, mask)):
        made = made | (((word >> place) & 1) << rank)
    return made


def spread(width, word, mask):
    made = 0
    for rank, place in enumerate(places_of(width, mask)):
        made = made | (((word >> rank) & 1) << place)
    return made


def press_rows(width, mask):
    rows = [("mask", 0, mask)]
    for step in steps_of(width, mask):
        rows = rows + moving("down", step[0], step[1], len(rows))
    return rows


def spread_rows(width, mask):
    # The bits for which the mask has a place, led back along the steps by which they would be pressed.
    rows = [("mask", 0, pressed(width, mask, mask))]
    for step in reversed(steps_of(width, mask)):
        rows = rows + moving("up", step[0] >> step[1], step[1], len(rows))
    return rows


def places_of(width, mask):
    return [place for place in range(width) if ((mask >> place) & 1) == 1]


def steps_of(width, mask):
    # Each bit falls from its place to its rank, by those of 1, 2, 4, .. that sum to its whole fall, the least first.
    # So no bit lands on another: the higher of two falls farther than the lower by no more than the places of the
    # mask's noughts between them, in whole and, as its fall is never the lesser, in the least parts too.
    steps = []
    places = places_of(width, mask)
    far = 1
    while far < width:
        falls = [(place - rank) & far for rank, place in enumerate(places)]
        falling = sum([1 << place for place, fall in zip(places, falls) if fall != 0])
        if falling != 0:
            steps.append((falling, far))
        places = [place - fall for place, fall in zip(places, falls)]
        far = 2 * far
    return steps


def moving(name, mask, far, given):
    return [
        ("mask", given, mask),
        ("both", given, given + 1),
        (name, given + 1, far),
        ("both", given + 2, given + 3),
    ]
