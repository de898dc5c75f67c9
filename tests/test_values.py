"""Points 1, 2 and 4: all values of a row and a word, and the answer."""

import unittest

from bitferry.deeds import answer, values
from helper import NAMES, WIDTHS, every, model_values, random_row, sample_words


class EachDeed(unittest.TestCase):
    def one(self, width, deed, word, awaited):
        self.assertEqual(values(width, [deed], word), [word, awaited], (width, deed))
        self.assertEqual(answer(width, [deed], word), awaited, (width, deed))

    def test_by_hand(self):
        self.one(8, ("fix", 5), 0b10110011, 5)
        self.one(8, ("mask", 0, 0b00111100), 0b10110011, 0b00110000)
        self.one(8, ("turn", 0, 0b00111100), 0b10110011, 0b10001111)
        self.one(8, ("both", 0, 0), 0b10110011, 0)
        self.one(8, ("up", 0, 3), 0b10110011, 0b10011000)
        self.one(8, ("down", 0, 3), 0b10110011, 0b00010110)

    def test_width_one(self):
        for word in (0, 1):
            self.one(1, ("fix", 1), word, 1)
            self.one(1, ("turn", 0, 1), word, 1 - word)
            self.one(1, ("mask", 0, 0), word, 0)
            self.one(1, ("up", 0, 1), word, 0)
            self.one(1, ("down", 0, 1), word, 0)

    def test_fix(self):
        for width in WIDTHS:
            for word in sample_words(width):
                for fixed in (0, 1, every(width)):
                    self.one(width, ("fix", fixed), word, fixed)

    def test_mask_and_turn_by_no_bits_and_by_every(self):
        for width in WIDTHS:
            for word in sample_words(width):
                self.one(width, ("mask", 0, 0), word, 0)
                self.one(width, ("mask", 0, every(width)), word, word)
                self.one(width, ("turn", 0, 0), word, word)
                self.one(width, ("turn", 0, every(width)), word, every(width) - word)

    def test_up_and_down_by_none_by_one_and_by_all(self):
        for width in WIDTHS:
            for word in sample_words(width):
                self.one(width, ("up", 0, 0), word, word)
                self.one(width, ("down", 0, 0), word, word)
                self.one(width, ("up", 0, 1), word, 2 * word % 2 ** width)
                self.one(width, ("down", 0, 1), word, word // 2)
                self.one(width, ("up", 0, width), word, 0)
                self.one(width, ("down", 0, width), word, 0)

    def test_up_and_down_by_each(self):
        for width in WIDTHS:
            full = every(width)
            for step in range(width + 1):
                self.one(width, ("up", 0, step), full, full - (2 ** step - 1))
                self.one(width, ("down", 0, step), full, 2 ** (width - step) - 1)

    def test_all_deeds_and_words_of_small_widths(self):
        for width in (1, 2, 4):
            deeds = [("fix", word) for word in range(2 ** width)] + [("both", 0, 0)]
            deeds += [(name, 0, word) for name in ("mask", "turn") for word in range(2 ** width)]
            deeds += [(name, 0, step) for name in ("up", "down") for step in range(width + 1)]
            for deed in deeds:
                for word in range(2 ** width):
                    self.assertEqual(values(width, [deed], word), model_values(width, [deed], word))


class Rows(unittest.TestCase):
    def alike(self, width, rows):
        for word in sample_words(width):
            awaited = model_values(width, rows, word)
            self.assertEqual(values(width, rows, word), awaited)
            self.assertEqual(answer(width, rows, word), awaited[-1])

    def test_no_deeds(self):
        for width in WIDTHS:
            for word in sample_words(width):
                self.assertEqual(values(width, [], word), [word])
                self.assertEqual(answer(width, [], word), word)

    def test_by_hand(self):
        rows = [("up", 0, 1), ("both", 0, 1), ("mask", 2, 12), ("turn", 0, 1), ("fix", 9), ("down", 3, 2)]
        self.assertEqual(values(4, rows, 11), [11, 6, 13, 12, 10, 9, 3])
        self.assertEqual(answer(4, rows, 11), 3)

    def test_values_near_and_far(self):
        for width in WIDTHS:
            chain = [("turn", number, number % 2) for number in range(20)]
            for number in range(21):
                self.alike(width, chain + [("mask", number, every(width))])
                self.alike(width, chain + [("both", number, 20)])
                self.alike(width, chain + [("both", 0, number)])
                self.alike(width, chain + [("up", number, 1), ("down", number, 1)])

    def test_one_value_twice(self):
        for width in WIDTHS:
            self.alike(width, [("turn", 0, 1), ("both", 1, 1)])
            self.alike(width, [("turn", 0, 1), ("both", 1, 0), ("both", 1, 0), ("both", 0, 1)])

    def test_the_last_value_is_the_answer_though_unused_ones_stand_ahead(self):
        for width in WIDTHS:
            self.alike(width, [("fix", 1), ("fix", 0), ("mask", 0, every(width))])

    def test_many_rows(self):
        for width in WIDTHS:
            for seed in range(25):
                rows = random_row(seed, width, 1 + seed)
                self.alike(width, rows)

    def test_every_deed_comes_in_the_many_rows(self):
        for width in WIDTHS:
            names = {deed[0] for seed in range(25) for deed in random_row(seed, width, 1 + seed)}
            self.assertEqual(names, set(NAMES))

    def test_a_thousand_deeds(self):
        for width in (1, 8, 64):
            rows = random_row("long", width, 1000)
            self.assertEqual(values(width, rows, every(width)), model_values(width, rows, every(width)))
            self.assertEqual(len(values(width, rows, 0)), 1001)

    def test_kinds(self):
        told = values(8, random_row("kinds", 8, 30), 200)
        self.assertIs(type(told), list)
        for value in told:
            self.assertIs(type(value), int)
            self.assertTrue(0 <= value <= 255)
        self.assertIs(type(answer(8, [("both", 0, 0)], 3)), int)


if __name__ == "__main__":
    unittest.main()
