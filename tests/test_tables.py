"""Points 6 and 7: tables of rows, and rows for tables."""

import unittest

from bitferry.deeds import answer, behind
from bitferry.tables import joined, rows_of, table_of, told, unlike
from helper import WIDTHS, every, is_row, is_table, model_told, random_row, random_table, random_words, sample_words


def as_it_stands(width):
    """The table that tells each word itself."""
    return (0, [2 ** place for place in range(width)])


def one_bit_table(seed, width):
    places = [word % width for word in random_words(f"places {seed}", 64, width)]
    return (0, [2 ** place for place in places])


def diagonal_table(width, rise, marks):
    """Each bit that is marked rises by so many places, and the others are lost."""
    columns = []
    for place, mark in enumerate(marks):
        stays = mark == 1 and 0 <= place + rise < width
        columns.append(2 ** (place + rise) if stays else 0)
    return (0, columns)


def tables_of_each_kind(width):
    some = [random_table(seed, width) for seed in range(4)]
    some += [one_bit_table(seed, width) for seed in range(4)]
    some += [(0, [0] * width), (0, [every(width)] * width), (0, [every(width)] + [0] * (width - 1))]
    some += [(0, [0] * (width - 1) + [every(width)]), (0, [1] * width), (0, [2 ** (width - 1)] * width)]
    some += [as_it_stands(width), (0, list(reversed(as_it_stands(width)[1])))]
    for rise in {0, 1, -1, width // 2, -(width // 2), width - 1, 1 - width}:
        some.append(diagonal_table(width, rise, [1] * width))
        some.append(diagonal_table(width, rise, [place % 2 for place in range(width)]))
    starts = [0, 1, every(width)] + random_words("start", width, 1)
    return some + [(start, columns) for start in starts for old, columns in some]


class TableOf(unittest.TestCase):
    def holds(self, width, rows):
        table = table_of(width, rows)
        self.assertTrue(is_table(width, table), table)
        start = answer(width, rows, 0)
        self.assertEqual(table[0], start)
        for place in range(width):
            self.assertEqual(table[1][place], answer(width, rows, 2 ** place) ^ start, (width, place))
        for word in sample_words(width):
            self.assertEqual(model_told(width, table, word), answer(width, rows, word), (width, word))

    def test_by_hand(self):
        self.assertEqual(table_of(4, [("up", 0, 1), ("both", 0, 1), ("turn", 2, 9)]), (9, [3, 6, 12, 8]))
        self.assertEqual(table_of(1, [("turn", 0, 1)]), (1, [1]))
        self.assertEqual(table_of(2, [("fix", 2)]), (2, [0, 0]))

    def test_no_deeds(self):
        for width in WIDTHS:
            self.assertEqual(table_of(width, []), as_it_stands(width))

    def test_each_deed(self):
        for width in WIDTHS:
            full = every(width)
            for word in (0, 1, full):
                self.holds(width, [("fix", word)])
                self.holds(width, [("mask", 0, word)])
                self.holds(width, [("turn", 0, word)])
            for step in {0, 1, width // 2, width - 1, width}:
                self.holds(width, [("up", 0, step)])
                self.holds(width, [("turn", 0, full), ("down", 1, step)])
            self.holds(width, [("both", 0, 0)])
            self.holds(width, [("turn", 0, 1), ("up", 0, 1), ("both", 1, 2)])

    def test_many_rows(self):
        for width in WIDTHS:
            for seed in range(20):
                self.holds(width, random_row(f"table {seed}", width, seed + 1))

    def test_a_thousand_deeds(self):
        for width in (1, 64):
            self.holds(width, random_row("long table", width, 1000))


class Told(unittest.TestCase):
    def test_by_hand(self):
        table = (9, [3, 6, 12, 8])
        self.assertEqual([told(table, word) for word in (0, 1, 2, 3, 8, 15)], [9, 10, 15, 12, 1, 8])
        self.assertIs(type(told(table, 5)), int)

    def test_start_and_each_bit_alone(self):
        for width in WIDTHS:
            table = random_table("alone", width)
            self.assertEqual(told(table, 0), table[0])
            for place, column in enumerate(table[1]):
                self.assertEqual(told(table, 2 ** place), table[0] ^ column)

    def test_against_the_sum(self):
        for width in WIDTHS:
            for table in tables_of_each_kind(width):
                for word in sample_words(width)[-4:]:
                    self.assertEqual(told(table, word), model_told(width, table, word), (table, word))

    def test_all_words_of_small_widths(self):
        for width in (1, 2, 4, 8):
            rows = random_row("all words", width, 12)
            table = table_of(width, rows)
            for word in range(2 ** width):
                self.assertEqual(told(table, word), answer(width, rows, word))


class Joined(unittest.TestCase):
    def holds(self, width, first, second):
        both = joined(first, second)
        self.assertTrue(is_table(width, both), both)
        some = [0, every(width)] + [2 ** place for place in range(width)] + sample_words(width)
        for word in some:
            self.assertEqual(told(both, word), told(second, told(first, word)), (first, second, word))

    def test_by_hand(self):
        # Up by one and turned by 1, then the order of the bits turned about and turned by 8.
        self.assertEqual(joined((1, [2, 4, 8, 0]), (8, [8, 4, 2, 1])), (0, [4, 2, 1, 0]))
        self.assertEqual(joined((8, [8, 4, 2, 1]), (1, [2, 4, 8, 0])), (1, [0, 8, 4, 2]))

    def test_tables_of_each_kind(self):
        for width in WIDTHS:
            some = tables_of_each_kind(width)
            for first, second in zip(some, some[7:] + some[:7]):
                self.holds(width, first, second)

    def test_beside_the_table_that_changes_nothing(self):
        for width in WIDTHS:
            table = random_table("beside", width)
            self.assertEqual(joined(table, as_it_stands(width)), table)
            self.assertEqual(joined(as_it_stands(width), table), table)

    def test_like_rows_behind_one_another(self):
        for width in WIDTHS:
            for seed in range(10):
                first = random_row(f"first {seed}", width, 8)
                second = random_row(f"second {seed}", width, 8)
                awaited = table_of(width, behind(first, second))
                self.assertEqual(joined(table_of(width, first), table_of(width, second)), awaited)


class Unlike(unittest.TestCase):
    def walked(self, width, one, other):
        for word in range(2 ** width):
            if told(one, word) != told(other, word):
                return word
        return None

    def test_like_tables(self):
        for width in WIDTHS:
            for table in tables_of_each_kind(width):
                self.assertIsNone(unlike(table, (table[0], list(table[1]))))

    def test_unlike_starts(self):
        for width in WIDTHS:
            table = random_table("starts", width)
            for turned in (1, every(width), 2 ** (width - 1)):
                answered = unlike(table, (table[0] ^ turned, list(table[1])))
                self.assertEqual(answered, 0)
                self.assertIs(type(answered), int)

    def test_unlike_starts_and_columns_that_make_up_for_them(self):
        for width in WIDTHS:
            table = random_table("made up for", width)
            other = (table[0] ^ 1, [column ^ 1 for column in table[1]])
            self.assertEqual(unlike(table, other), 0)

    def test_one_unlike_column(self):
        for width in WIDTHS:
            table = random_table("column", width)
            for place in range(width):
                columns = list(table[1])
                columns[place] ^= 2 ** (width - 1 - place)
                self.assertEqual(unlike(table, (table[0], columns)), 2 ** place)
                self.assertEqual(unlike((table[0], columns), table), 2 ** place)

    def test_several_unlike_columns(self):
        for width in WIDTHS[1:]:
            table = random_table("columns", width)
            for place in range(width - 1):
                columns = list(table[1])
                columns[place] ^= 1
                columns[width - 1] ^= 1
                self.assertEqual(unlike(table, (table[0], columns)), 2 ** place)

    def test_by_walking_all_words(self):
        for width in (1, 2, 4, 8):
            for seed in range(20):
                one = random_table(f"one {seed}", width)
                other = random_table(f"other {seed}", width)
                alike = (one[0], one[1][:seed % width] + other[1][seed % width:])
                for some in (other, alike, (one[0], list(one[1]))):
                    self.assertEqual(unlike(one, some), self.walked(width, one, some), (one, some))


class RowsOf(unittest.TestCase):
    def holds(self, width, table):
        rows = rows_of(width, table)
        self.assertTrue(is_row(width, rows), rows)
        self.assertLessEqual(len(rows), 6 * width)
        start = answer(width, rows, 0)
        columns = [answer(width, rows, 2 ** place) ^ start for place in range(width)]
        self.assertEqual((start, columns), table, width)
        for word in sample_words(width)[-3:]:
            self.assertEqual(answer(width, rows, word), model_told(width, table, word))

    def test_tables_of_each_kind(self):
        for width in WIDTHS:
            for table in tables_of_each_kind(width):
                self.holds(width, table)

    def test_each_diagonal_alone(self):
        for width in WIDTHS:
            for rise in range(1 - width, width):
                self.holds(width, diagonal_table(width, rise, [1] * width))

    def test_all_tables_of_small_widths(self):
        for width in (1, 2):
            for number in range(2 ** (width * (width + 1))):
                some = [number // 2 ** (width * place) % 2 ** width for place in range(width + 1)]
                self.holds(width, (some[0], some[1:]))

    def test_every_bit_of_every_column_and_the_start(self):
        for width in WIDTHS:
            self.holds(width, (every(width), [every(width)] * width))

    def test_tables_of_rows(self):
        for width in WIDTHS:
            for seed in range(10):
                self.holds(width, table_of(width, random_row(f"there and back {seed}", width, 20)))


if __name__ == "__main__":
    unittest.main()
