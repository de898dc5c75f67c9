"""Points 8 and 9: tables turned back, two words told alike, and whence a word comes."""

import random
import unittest

from bitferry.errors import FerryError, NoDeed, NoLine, NoOrder, NoWay
from bitferry.tables import told
from bitferry.turned import like_words, turned_back, whence
from helper import WIDTHS, every, is_table, is_word, random_table, sample_words


def table_there_and_back(seed, width):
    """A table that never tells the same for two words: drawn places, then columns put onto others."""
    chance = random.Random(f"there and back {seed} {width}")
    columns = [2 ** place for place in range(width)]
    chance.shuffle(columns)
    for step in range(4 * width if width > 1 else 0):
        one, other = chance.sample(range(width), 2)
        columns[one] ^= columns[other]
    return (chance.randrange(2 ** width), columns)


def tables_there_and_back(width):
    some = [table_there_and_back(seed, width) for seed in range(8)]
    columns = [2 ** place for place in range(width)]
    some += [(0, columns), (every(width), columns), (1, list(reversed(columns)))]
    # Each column with all bits from its place on, and with all bits up to its place.
    some.append((0, [every(width) - 2 ** place + 1 for place in range(width)]))
    some.append((1, [2 ** (place + 1) - 1 for place in range(width)]))
    return some


def table_with_loss(seed, width, size):
    """A table whose columns are sums of so many words alone."""
    chance = random.Random(f"loss {seed} {width} {size}")
    whole = table_there_and_back(seed, width)
    columns = []
    for place in range(width):
        column = 0
        for word in whole[1][:size]:
            column ^= word * chance.randrange(2)
        columns.append(column)
    return (whole[0], columns)


def tables_with_loss(width):
    some = [(0, [0] * width), (every(width), [0] * width)]
    sizes = [size for size in sorted({0, 1, width // 2, width - 1}) if size < width]
    some += [table_with_loss(seed, width, size) for seed in range(3) for size in sizes]
    for place in sorted({0, 1, width // 2, width - 2, width - 1} & set(range(width))):
        whole = table_there_and_back(f"nought {place}", width)
        some.append((whole[0], whole[1][:place] + [0] + whole[1][place + 1:]))
    for place in sorted({0, 1, width // 2, width - 2} & set(range(width - 1))):
        whole = table_there_and_back(f"like {place}", width)
        some.append((whole[0], whole[1][:-1] + [whole[1][place]]))
        total = 0
        for column in whole[1][place:-1]:
            total ^= column
        some.append((whole[0], [total] + whole[1][:-1]))
        some.append((whole[0], whole[1][:-1] + [total]))
    return some


def is_even(word):
    return bin(word).count("1") % 2 == 0


class TurnedBack(unittest.TestCase):
    def holds(self, width, table):
        back = turned_back(width, table)
        self.assertTrue(is_table(width, back), back)
        some = range(2 ** width) if width <= 8 else sample_words(width) + [2 ** place for place in range(width)]
        for word in some:
            self.assertEqual(told(back, told(table, word)), word, (table, word))
            self.assertEqual(told(table, told(back, word)), word, (table, word))

    def refused(self, width, table):
        with self.assertRaises(NoWay, msg=table) as caught:
            turned_back(width, table)
        self.assertIsInstance(caught.exception, FerryError)
        self.assertIsInstance(caught.exception, ValueError)
        self.assertNotIsInstance(caught.exception, (NoDeed, NoOrder, NoLine))

    def test_by_hand(self):
        self.assertEqual(turned_back(1, (1, [1])), (1, [1]))
        # Bit 0 is put onto bit 1, and what comes is turned by 1: back from 1 comes 0, back from 0 comes 3.
        self.assertEqual(turned_back(2, (1, [3, 2])), (3, [3, 2]))
        self.assertEqual(turned_back(4, (5, [2, 4, 8, 1])), (10, [8, 1, 2, 4]))

    def test_there_and_back(self):
        for width in WIDTHS:
            for table in tables_there_and_back(width):
                self.holds(width, table)
                self.assertEqual(turned_back(width, turned_back(width, table)), table)

    def test_no_way(self):
        for width in WIDTHS:
            for table in tables_with_loss(width):
                self.refused(width, table)

    def test_no_way_by_hand(self):
        self.refused(1, (0, [0]))
        self.refused(1, (1, [0]))
        self.refused(2, (0, [1, 1]))
        self.refused(4, (3, [1, 2, 3, 8]))
        self.refused(4, (3, [7, 11, 4, 8]))
        self.refused(64, (0, [2 ** place for place in range(63)] + [every(63)]))

    def test_all_tables_of_width_two(self):
        for number in range(64):
            table = (number // 16, [number // 4 % 4, number % 4])
            if len({told(table, word) for word in range(4)}) == 4:
                self.holds(2, table)
            else:
                self.refused(2, table)

    def test_drawn_tables(self):
        for width in (1, 2, 4, 8):
            for seed in range(40):
                table = random_table(f"drawn {seed}", width)
                if len({told(table, word) for word in range(2 ** width)}) == 2 ** width:
                    self.holds(width, table)
                else:
                    self.refused(width, table)


class LikeWords(unittest.TestCase):
    def holds(self, width, table):
        two = like_words(width, table)
        self.assertIs(type(two), tuple, table)
        self.assertEqual(len(two), 2)
        self.assertTrue(all(is_word(width, word) for word in two), two)
        self.assertLess(two[0], two[1])
        self.assertEqual(told(table, two[0]), told(table, two[1]), table)

    def test_none(self):
        for width in WIDTHS:
            for table in tables_there_and_back(width):
                self.assertIsNone(like_words(width, table), table)

    def test_two_words(self):
        for width in WIDTHS:
            for table in tables_with_loss(width):
                self.holds(width, table)

    def test_just_where_there_are_two(self):
        for width in (1, 2, 4, 8):
            for seed in range(40):
                table = random_table(f"just where {seed}", width)
                if len({told(table, word) for word in range(2 ** width)}) == 2 ** width:
                    self.assertIsNone(like_words(width, table), table)
                else:
                    self.holds(width, table)


class Whence(unittest.TestCase):
    def holds(self, width, table, word):
        """Either pair proves itself: a word that is told to this one, or a mask that parts it from all answers."""
        pair = whence(width, table, word)
        self.assertIs(type(pair), tuple)
        self.assertEqual(len(pair), 2)
        self.assertIn(pair[0], ("from", "never"))
        self.assertTrue(is_word(width, pair[1]), pair)
        if pair[0] == "from":
            self.assertEqual(told(table, pair[1]), word, (table, word))
        else:
            self.parts(table, word, pair[1])
        return pair[0]

    def parts(self, table, word, mask):
        # All answers are even or all are odd just where each column alone is even.
        self.assertTrue(all(is_even(column & mask) for column in table[1]), (table, word, mask))
        self.assertNotEqual(is_even(word & mask), is_even(table[0] & mask), (table, word, mask))

    def test_by_hand(self):
        self.assertEqual(whence(4, (5, [2, 4, 8, 1]), 5), ("from", 0))
        self.assertEqual(whence(4, (5, [2, 4, 8, 1]), 7), ("from", 1))
        self.assertEqual(whence(1, (1, [0]), 0), ("never", 1))
        self.assertIn(whence(1, (1, [0]), 1), (("from", 0), ("from", 1)))
        # The answers are 0 and 3: each has an even number of bits.
        self.assertEqual(whence(2, (0, [3, 0]), 1), ("never", 3))
        self.assertEqual(whence(2, (0, [3, 0]), 2), ("never", 3))
        # The answers are 1 and 2: each has an odd number of bits.
        self.assertEqual(whence(2, (1, [3, 3]), 3), ("never", 3))
        self.assertEqual(whence(2, (1, [3, 3]), 0), ("never", 3))

    def test_all_words_of_small_widths(self):
        for width in (1, 2, 4, 8):
            some = tables_with_loss(width)[:12] + tables_there_and_back(width)[:4]
            for table in some + [random_table(f"whence {seed}", width) for seed in range(6)]:
                answers = {told(table, word) for word in range(2 ** width)}
                for word in range(2 ** width):
                    awaited = "from" if word in answers else "never"
                    self.assertEqual(self.holds(width, table, word), awaited, (table, word))

    def test_the_mask_against_all_answers(self):
        for width in (1, 2, 4, 8):
            for table in tables_with_loss(width)[:12]:
                answers = {told(table, word) for word in range(2 ** width)}
                for word in [word for word in range(2 ** width) if word not in answers]:
                    mask = whence(width, table, word)[1]
                    kinds = {is_even(answer & mask) for answer in answers}
                    self.assertEqual(kinds, {not is_even(word & mask)})

    def test_answers_of_great_widths(self):
        for width in (16, 32, 64):
            for table in tables_with_loss(width) + tables_there_and_back(width):
                for word in sample_words(width)[-4:]:
                    self.assertEqual(self.holds(width, table, told(table, word)), "from")

    def test_words_that_never_come_of_great_widths(self):
        for width in (16, 32, 64):
            found = 0
            for table in tables_with_loss(width):
                for word in sample_words(width):
                    found += self.holds(width, table, word) == "never"
                places = [self.holds(width, table, table[0] ^ 2 ** place) for place in range(width)]
                # Were each bit alone reached from START, all words were: so one of these never comes.
                self.assertIn("never", places)
            self.assertGreater(found, 0)

    def test_a_table_without_loss_has_every_word(self):
        for width in WIDTHS:
            for table in tables_there_and_back(width):
                for word in sample_words(width):
                    self.assertEqual(self.holds(width, table, word), "from")


if __name__ == "__main__":
    unittest.main()
