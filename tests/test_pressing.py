"""Point 12: words pressed and spread, bit by bit and as rows of deeds."""

import random
import unittest

from bitferry.deeds import answer
from bitferry.pressing import press_rows, pressed, spread, spread_rows
from helper import (TIMES_TWO, WIDTHS, bits, every, is_row, is_word, model_pressed, model_spread, places, sample_words,
                    word_of)


def masks(width):
    """No bit, every bit, each bit alone and each bit left out, few and many bits, and bits in regular steps."""
    chance = random.Random(f"masks {width}")
    full = every(width)
    some = [0, full] + [2 ** place for place in range(width)] + [full - 2 ** place for place in range(width)]
    for step in range(10):
        drawn = [chance.randrange(2 ** width) for number in range(3)]
        some += [drawn[0], drawn[0] & drawn[1] & drawn[2], drawn[0] | drawn[1] | drawn[2]]
    for step in (1, 2, 3, 4, 8, 16, 32):
        some.append(word_of([int(place // step % 2 == 0) for place in range(width)]))
        some.append(word_of([int(place // step % 2 == 1) for place in range(width)]))
        some.append(word_of([int(place % step == 0) for place in range(width)]))
    return sorted(set(some))


class BitByBit(unittest.TestCase):
    def test_by_hand(self):
        self.assertEqual(pressed(8, 0b10110010, 0b11001100), 0b1000)
        self.assertEqual(pressed(8, 0b01110110, 0b11001100), 0b0101)
        self.assertEqual(spread(8, 0b0101, 0b11001100), 0b01000100)
        self.assertEqual(spread(8, 0b11110101, 0b11001100), 0b01000100)
        self.assertEqual(spread(8, 0b1000, 0b11001100), 0b10000000)

    def test_which_of_the_two_is_the_mask(self):
        self.assertEqual(pressed(4, 0b1000, 0b1100), 0b10)
        self.assertEqual(pressed(4, 0b1100, 0b1000), 0b1)
        self.assertEqual(spread(4, 0b0001, 0b1100), 0b0100)
        self.assertEqual(spread(4, 0b1100, 0b0001), 0b0000)

    def test_width_one(self):
        for word in (0, 1):
            for mask in (0, 1):
                self.assertEqual(pressed(1, word, mask), word * mask)
                self.assertEqual(spread(1, word, mask), word * mask)

    def test_no_bit_and_every_bit(self):
        for width in WIDTHS:
            for word in sample_words(width):
                self.assertEqual(pressed(width, word, 0), 0)
                self.assertEqual(spread(width, word, 0), 0)
                self.assertEqual(pressed(width, word, every(width)), word)
                self.assertEqual(spread(width, word, every(width)), word)

    def test_all_of_small_widths(self):
        for width in (1, 2, 4):
            for mask in range(2 ** width):
                for word in range(2 ** width):
                    self.assertEqual(pressed(width, word, mask), model_pressed(width, word, mask))
                    self.assertEqual(spread(width, word, mask), model_spread(width, word, mask))

    def test_masks_of_each_kind(self):
        for width in WIDTHS:
            for mask in masks(width):
                for word in sample_words(width)[-5:]:
                    told = (pressed(width, word, mask), spread(width, word, mask))
                    self.assertTrue(all(is_word(width, some) for some in told), told)
                    self.assertEqual(told, (model_pressed(width, word, mask), model_spread(width, word, mask)))

    def test_one_undone_by_the_other(self):
        for width in WIDTHS:
            for mask in masks(width):
                low = 2 ** len(places(width, mask)) - 1
                for word in sample_words(width):
                    self.assertEqual(spread(width, pressed(width, word, mask), mask), word & mask)
                    self.assertEqual(pressed(width, spread(width, word, mask), mask), word & low)


class Rows(unittest.TestCase):
    def holds(self, width, rows, model, mask):
        self.assertTrue(is_row(width, rows), rows)
        self.assertLessEqual(len(rows), 4 * TIMES_TWO[width] + 1)
        # Each bit alone, 0 and every bit settle the row for all words, for rows sum without carrying.
        for word in [0, every(width)] + [2 ** place for place in range(width)] + sample_words(width)[-3:]:
            self.assertEqual(answer(width, rows, word), model(width, word, mask), (width, word, mask))

    def holds_both(self, width, mask):
        self.holds(width, press_rows(width, mask), pressed, mask)
        self.holds(width, spread_rows(width, mask), spread, mask)

    def test_masks_of_each_kind(self):
        for width in WIDTHS:
            for mask in masks(width):
                self.holds_both(width, mask)

    def test_all_masks_of_small_widths(self):
        for width in (1, 2, 4, 8):
            for mask in range(2 ** width):
                self.holds_both(width, mask)

    def test_against_places_counted(self):
        for width in WIDTHS:
            for mask in masks(width)[::5]:
                self.holds(width, press_rows(width, mask), model_pressed, mask)
                self.holds(width, spread_rows(width, mask), model_spread, mask)

    def test_width_one_takes_one_deed_at_most(self):
        for mask in (0, 1):
            self.assertLessEqual(len(press_rows(1, mask)), 1)
            self.assertLessEqual(len(spread_rows(1, mask)), 1)
            for word in (0, 1):
                self.assertEqual(answer(1, press_rows(1, mask), word), word * mask)
                self.assertEqual(answer(1, spread_rows(1, mask), word), word * mask)


if __name__ == "__main__":
    unittest.main()
