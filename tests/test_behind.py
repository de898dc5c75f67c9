"""Point 4: two rows put one behind the other."""

import unittest

from bitferry.deeds import answer, behind
from helper import WIDTHS, goes_ahead, random_row, sample_words

USES_ITS_WORD_OFTEN = [("turn", 0, 1), ("both", 0, 1), ("up", 0, 1), ("both", 3, 0), ("mask", 0, 1), ("both", 5, 4)]
NEVER_USES_ITS_WORD = [("fix", 1), ("turn", 1, 1), ("both", 1, 2), ("up", 3, 1), ("down", 4, 1), ("mask", 5, 1)]


class Behind(unittest.TestCase):
    def holds(self, width, first, second):
        told = behind(first, second)
        self.assertIs(type(told), list)
        self.assertEqual(len(told), len(first) + len(second))
        self.assertTrue(all(type(deed) is tuple for deed in told))
        self.assertTrue(goes_ahead(told), told)
        for word in sample_words(width):
            awaited = answer(width, second, answer(width, first, word))
            self.assertEqual(answer(width, told, word), awaited, (width, first, second, word))

    def test_by_hand(self):
        told = behind([("up", 0, 1), ("both", 0, 1)], [("turn", 0, 3), ("fix", 8), ("both", 1, 2), ("down", 3, 1)])
        # 5 becomes 5 ^ 10 = 15, and behind it 15 ^ 3 ^ 8 = 4, halved.
        self.assertEqual(answer(4, told, 5), 2)
        self.assertEqual([answer(4, told, word) for word in (0, 1, 15)], [5, 4, 5])

    def test_no_deeds_on_either_side(self):
        self.assertEqual(behind([], []), [])
        for width in WIDTHS:
            self.holds(width, [], [])
            for row in (USES_ITS_WORD_OFTEN, NEVER_USES_ITS_WORD, random_row("side", width, 9)):
                self.holds(width, [], row)
                self.holds(width, row, [])

    def test_second_uses_its_word_often(self):
        for width in WIDTHS:
            for size in range(6):
                self.holds(width, random_row("often", width, size), USES_ITS_WORD_OFTEN)

    def test_second_never_uses_its_word(self):
        for width in WIDTHS:
            for size in range(6):
                self.holds(width, random_row("never", width, size), NEVER_USES_ITS_WORD)

    def test_each_deed_alone_behind(self):
        for width in WIDTHS:
            for deed in (("fix", 1), ("mask", 0, 1), ("turn", 0, 1), ("both", 0, 0), ("up", 0, 1), ("down", 0, 1)):
                self.holds(width, [("turn", 0, 1), ("up", 1, 1), ("both", 0, 2)], [deed])

    def test_many_rows(self):
        for width in WIDTHS:
            for seed in range(30):
                first = random_row(f"first {seed}", width, seed % 7)
                second = random_row(f"second {seed}", width, seed % 11)
                self.holds(width, first, second)

    def test_three_rows(self):
        for width in WIDTHS:
            some = [random_row(f"three {number}", width, 5) for number in range(3)]
            left = behind(behind(some[0], some[1]), some[2])
            right = behind(some[0], behind(some[1], some[2]))
            for word in sample_words(width):
                awaited = answer(width, some[2], answer(width, some[1], answer(width, some[0], word)))
                self.assertEqual(answer(width, left, word), awaited)
                self.assertEqual(answer(width, right, word), awaited)

    def test_long_rows(self):
        for first, second in ((500, 500), (1000, 0), (0, 1000), (1, 999)):
            self.holds(64, random_row("long first", 64, first), random_row("long second", 64, second))


if __name__ == "__main__":
    unittest.main()
