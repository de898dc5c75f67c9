"""Tables turned back: the way from an answer to its word, or what shows that there is none."""

from bitferry.errors import NoWay
from bitferry.tables import told


def turned_back(width, table):
    swept = swept_of(width, table)
    if len(swept[1]) > 0:
        raise NoWay("the table tells the same for two words")
    # With a lead at every place, each sum is its lead's bit alone: its sources are the word whence that bit comes.
    columns = [swept[0][place][1] for place in range(width)]
    return (told((0, columns), table[0]), columns)


def like_words(width, table):
    lost = swept_of(width, table)[1]
    if len(lost) == 0:
        return None
    return (0, lost[0])


def whence(width, table, word):
    kept = swept_of(width, table)[0]
    rest = rest_of(kept, word ^ table[0])
    if rest[0] == 0:
        return ("from", rest[1])
    return ("never", mask_against(kept, rest[0]))


def swept_of(width, table):
    # A pair (SUM, SOURCES) is a sum of columns and the word whose bits say which ones.
    # Kept is a dict from a lead, a place, to a pair: its SUM has a 1 at the lead and a 0 at all other leads.
    # Lost are the SOURCES, none of them 0, whose columns sum to 0.
    kept = {}
    lost = []
    for place in range(width):
        rest = summed(rest_of(kept, table[1][place]), (0, 1 << place))
        if rest[0] == 0:
            lost.append(rest[1])
        else:
            kept = kept_with(kept, rest)
    return (kept, lost)


def rest_of(kept, word):
    # No kept sum changes the word's bit at another's lead, so the order of the leads does not matter.
    rest = (word, 0)
    for lead in kept:
        if bit(word, lead) == 1:
            rest = summed(rest, kept[lead])
    return rest


def kept_with(kept, rest):
    lead = highest(rest[0])
    more = {}
    for other in kept:
        pair = kept[other]
        more[other] = summed(pair, rest) if bit(pair[0], lead) == 1 else pair
    more[lead] = rest
    return more


def mask_against(kept, rest):
    # The rest is 0 at every lead. Its highest place stands in the mask, and each lead whose sum has a 1 there:
    # so every sum of columns meets the mask in an even number of places, and the rest in just one.
    place = highest(rest)
    mask = 1 << place
    for lead in kept:
        if bit(kept[lead][0], place) == 1:
            mask = mask | (1 << lead)
    return mask


def summed(one, other):
    return (one[0] ^ other[0], one[1] ^ other[1])


def bit(word, place):
    return (word >> place) & 1


def highest(word):
    return word.bit_length() - 1
