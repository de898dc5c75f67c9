"""Points 10 and 11: exchanges, and orders of the bits made by them."""

import itertools
import random
import unittest

from bitferry.deeds import answer
from bitferry.exchanges import exchanged, exchanges_of, is_good, rows_by
from helper import WIDTHS, bits, every, is_row, is_word, sample_words, word_of

GREAT = (2 ** 20, 2 ** 32, 2 ** 63, 2 ** 64 - 1, 2 ** 64, 2 ** 65, 2 ** 70 - 1, 2 ** 70)


def model_good(width, mask, far):
    """Point 10 word for word, place by place."""
    if not 1 <= far <= width - 1 or not 0 <= mask < 2 ** width:
        return False
    places = [place for place in range(width) if mask // 2 ** place % 2 == 1]
    if any(place + far >= width for place in places):
        return False
    taken = places + [place + far for place in places]
    return len(taken) == len(set(taken))


def model_exchanged(width, word, some):
    made = bits(width, word)
    for mask, far in some:
        for place, mark in enumerate(bits(width, mask)):
            if mark == 1:
                made[place], made[place + far] = made[place + far], made[place]
    return word_of(made)


def drawn_exchange(chance, width):
    far = chance.randint(1, width - 1)
    marks = [0] * width
    taken = [False] * width
    for place in range(width - far):
        if not taken[place] and not taken[place + far] and chance.randrange(3) > 0:
            marks[place] = 1
            taken[place] = taken[place + far] = True
    return (word_of(marks), far)


def drawn_exchanges(seed, width, size):
    chance = random.Random(f"exchanges {seed} {width} {size}")
    return [drawn_exchange(chance, width) for step in range(size)]


class IsGood(unittest.TestCase):
    def asked(self, width, mask, far):
        told = is_good(width, (mask, far))
        self.assertIs(type(told), bool)
        self.assertEqual(told, model_good(width, mask, far), (width, mask, far))
        return told

    def test_all_of_small_widths(self):
        for width in (1, 2, 4, 8):
            for mask in range(2 ** width + 8):
                for far in range(width + 3):
                    self.asked(width, mask, far)

    def test_each_distance(self):
        for width in WIDTHS:
            for far in range(width + 3):
                self.assertEqual(self.asked(width, 0, far), 1 <= far < width)
                self.assertEqual(self.asked(width, 1, far), 1 <= far < width)

    def test_great_distances(self):
        for width in WIDTHS:
            for far in GREAT + (width, width + 1, 2 * width):
                for mask in (0, 1, every(width), 2 ** 70):
                    self.assertFalse(self.asked(width, mask, far))

    def test_great_masks(self):
        for width in WIDTHS:
            for far in {0, 1, width - 1, width}:
                for mask in (2 ** width, 2 ** width + 1, 2 ** 65, 2 ** 70 - 1, 2 ** 70, 2 ** 70 - 2 ** width):
                    self.assertFalse(self.asked(width, mask, far))

    def test_pairs_that_reach_beyond(self):
        for width in WIDTHS:
            for far in range(1, width):
                self.assertTrue(self.asked(width, 2 ** (width - 1 - far), far))
                for place in range(width - far, width):
                    self.assertFalse(self.asked(width, 2 ** place, far))
                if far > 1:
                    self.assertFalse(self.asked(width, 2 ** (width - far) + 1, far))

    def test_pairs_that_share_a_place(self):
        for width in WIDTHS:
            for far in range(1, width):
                for place in range(width - 2 * far):
                    self.assertFalse(self.asked(width, 2 ** place + 2 ** (place + far), far))
                for place in range(width - 3 * far):
                    self.assertTrue(self.asked(width, 2 ** place + 2 ** (place + 2 * far), far))

    def test_by_hand(self):
        self.assertTrue(is_good(8, (0b01010101, 1)))
        self.assertTrue(is_good(8, (0b00001111, 4)))
        self.assertTrue(is_good(64, (2 ** 32 - 1, 32)))
        self.assertTrue(is_good(64, (1, 63)))
        self.assertFalse(is_good(8, (0b00000011, 1)))
        self.assertFalse(is_good(8, (0b00011111, 4)))
        self.assertFalse(is_good(8, (0b10000000, 1)))
        self.assertFalse(is_good(64, (2, 63)))
        self.assertFalse(is_good(1, (0, 0)))
        self.assertFalse(is_good(1, (0, 1)))

    def test_drawn(self):
        for width in WIDTHS[1:]:
            chance = random.Random(width)
            for exchange in drawn_exchanges("good", width, 20):
                self.assertTrue(self.asked(width, exchange[0], exchange[1]))
            for step in range(200):
                self.asked(width, chance.randrange(2 ** width), chance.randrange(width + 2))
                self.asked(width, chance.randrange(2 ** 70), chance.randrange(width + 2))


class Exchanged(unittest.TestCase):
    def test_by_hand(self):
        self.assertEqual(exchanged(0b0001, [(0b0001, 3)]), 0b1000)
        self.assertEqual(exchanged(0b1001, [(0b0001, 3)]), 0b1001)
        self.assertEqual(exchanged(0b0110, [(0b0001, 3)]), 0b0110)
        self.assertEqual(exchanged(0b0110, [(0b0101, 1)]), 0b1001)
        self.assertEqual(exchanged(0b0001, [(0b0001, 1), (0b0010, 1), (0b0001, 2)]), 0b0001)
        self.assertEqual(exchanged(0b0001, [(0b0001, 1), (0b0010, 2)]), 0b1000)
        self.assertEqual(exchanged(0b0001, [(0b0010, 2), (0b0001, 1)]), 0b0010)

    def test_none(self):
        for width in WIDTHS:
            for word in sample_words(width):
                self.assertEqual(exchanged(word, []), word)

    def test_the_mask_of_no_places(self):
        for width in WIDTHS[1:]:
            for word in sample_words(width):
                self.assertEqual(exchanged(word, [(0, 1), (0, width - 1)]), word)

    def test_lists(self):
        for width in WIDTHS[1:]:
            for size in range(1, 9):
                some = drawn_exchanges("lists", width, size)
                for word in sample_words(width) + [2 ** place for place in range(width)]:
                    told = exchanged(word, some)
                    self.assertTrue(is_word(width, told))
                    self.assertEqual(told, model_exchanged(width, word, some), (width, some, word))

    def test_each_pair_alone(self):
        for width in WIDTHS[1:]:
            for far in {1, width // 2, width - 1}:
                for place in range(width - far):
                    some = [(2 ** place, far)]
                    for word in (2 ** place, 2 ** (place + far), every(width), 2 ** place + 2 ** (place + far)):
                        self.assertEqual(exchanged(word, some), model_exchanged(width, word, some))


class RowsBy(unittest.TestCase):
    def holds(self, width, some):
        rows = rows_by(some)
        self.assertTrue(is_row(width, rows), rows)
        self.assertLessEqual(len(rows), 6 * len(some))
        for word in sample_words(width) + [2 ** place for place in range(width)]:
            self.assertEqual(answer(width, rows, word), model_exchanged(width, word, some), (width, some, word))

    def test_none(self):
        self.assertEqual(rows_by([]), [])
        for width in WIDTHS:
            self.holds(width, [])

    def test_the_mask_of_no_places(self):
        for width in WIDTHS[1:]:
            self.holds(width, [(0, 1)])
            self.holds(width, [(0, width - 1), (1, 1), (0, 1), (1, width - 1), (0, 1)])

    def test_lists(self):
        for width in WIDTHS[1:]:
            for size in range(1, 9):
                self.holds(width, drawn_exchanges("rows", width, size))

    def test_each_distance(self):
        for width in WIDTHS[1:]:
            for far in range(1, width):
                self.holds(width, [(1, far)])
                self.holds(width, [(2 ** (width - 1 - far), far)])

    def test_every_exchange_of_small_widths(self):
        for width in (2, 4, 8):
            for mask in range(2 ** width):
                for far in range(1, width):
                    if model_good(width, mask, far):
                        self.holds(width, [(mask, far)])

    def test_many(self):
        self.holds(64, drawn_exchanges("many", 64, 160))


class ExchangesOf(unittest.TestCase):
    def distances(self, width):
        down = []
        far = width // 2
        while far >= 1:
            down.append(far)
            far = far // 2
        return down + down[:-1][::-1]

    def holds(self, width, order):
        some = exchanges_of(width, list(order))
        self.assertIs(type(some), list)
        self.assertTrue(all(type(exchange) is tuple and len(exchange) == 2 for exchange in some), some)
        self.assertEqual([far for mask, far in some], self.distances(width))
        for mask, far in some:
            self.assertTrue(is_word(width, mask) and type(far) is int)
            self.assertTrue(model_good(width, mask, far), (mask, far))
            self.assertTrue(is_good(width, (mask, far)))
        for place, source in enumerate(order):
            self.assertEqual(exchanged(2 ** source, some), 2 ** place, (order, place))
        return some

    def test_how_many(self):
        awaited = {1: [], 2: [1], 4: [2, 1, 2], 8: [4, 2, 1, 2, 4], 64: [32, 16, 8, 4, 2, 1, 2, 4, 8, 16, 32]}
        for width, distances in awaited.items():
            self.assertEqual([far for mask, far in exchanges_of(width, list(range(width)))], distances)

    def test_by_hand(self):
        self.assertEqual(exchanges_of(1, [0]), [])
        self.assertEqual(exchanges_of(2, [0, 1]), [(0, 1)])
        self.assertEqual(exchanges_of(2, [1, 0]), [(1, 1)])

    def test_which_way_the_order_goes(self):
        # Bit 0 of the answer is bit 1 of the word, bit 1 is bit 2, bit 2 is bit 0.
        self.assertEqual(exchanged(0b0001, exchanges_of(4, [1, 2, 0, 3])), 0b0100)
        self.assertEqual(exchanged(0b0010, exchanges_of(4, [1, 2, 0, 3])), 0b0001)

    def test_all_orders_of_small_widths(self):
        for width in (1, 2, 4):
            for order in itertools.permutations(range(width)):
                self.holds(width, order)

    def test_as_they_stand_and_turned_about(self):
        for width in WIDTHS:
            self.holds(width, range(width))
            self.holds(width, range(width - 1, -1, -1))

    def test_gone_round(self):
        for width in WIDTHS:
            for step in range(width):
                self.holds(width, [(place + step) % width for place in range(width)])

    def test_two_places_changed(self):
        for width in WIDTHS[1:]:
            for place in range(1, width):
                order = list(range(width))
                order[0], order[place] = order[place], order[0]
                self.holds(width, order)

    def test_even_places_ahead_of_odd_ones(self):
        for width in WIDTHS[1:]:
            order = list(range(0, width, 2)) + list(range(1, width, 2))
            self.holds(width, order)
            self.holds(width, [order.index(place) for place in range(width)])

    def test_drawn(self):
        for width in WIDTHS:
            chance = random.Random(f"orders {width}")
            for step in range(60):
                order = list(range(width))
                chance.shuffle(order)
                some = self.holds(width, order)
                word = chance.randrange(2 ** width)
                awaited = word_of([bits(width, word)[source] for source in order])
                self.assertEqual(exchanged(word, some), awaited)
                self.assertEqual(answer(width, rows_by(some), word), awaited)


if __name__ == "__main__":
    unittest.main()
