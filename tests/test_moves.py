"""Points 13 and 14: moves, their tables, and the rows for bits turned about and running sums."""

import random
import unittest

from bitferry.deeds import answer, behind
from bitferry.moves import about_rows, move_of, move_table, moved, running_rows, undone_rows
from bitferry.tables import joined, table_of, told
from helper import (TIMES_TWO, WIDTHS, bits, every, is_row, is_table, is_word, model_about, model_running, model_told,
                    sample_words, settling_words, word_of)


def moves(width):
    """All as they are, turned about, gone round, one place often, none at all, and all sorts by chance."""
    chance = random.Random(f"moves {width}")
    own = list(range(width))
    some = [own, own[::-1], [-1] * width, [-2] * width, [0] * width, [width - 1] * width]
    some += [own[step:] + own[:step] for step in (1, width // 2, width - 1)]
    some += [[-1] * step + own[:width - step] for step in (1, width // 2)]
    some += [own[step:] + [-2] * step for step in (1, width // 2)]
    for step in range(8):
        some.append([chance.randrange(width) for place in own])
        some.append([chance.choice((-1, -2, chance.randrange(width))) for place in own])
        some.append(chance.sample(own, width))
        some.append([chance.choice((-1, -2)) for place in own])
    return some


def all_moves(width):
    some = [[]]
    for place in range(width):
        some = [move + [source] for move in some for source in range(-2, width)]
    return some


def model_moved(width, move, word):
    given = bits(width, word)
    fixed = {-1: 0, -2: 1}
    return word_of([fixed[source] if source in fixed else given[source] for source in move])


class Moves(unittest.TestCase):
    def holds(self, width, move, words):
        table = move_table(width, move)
        self.assertTrue(is_table(width, table), table)
        for word in words:
            made = moved(width, move, word)
            self.assertTrue(is_word(width, made), made)
            self.assertEqual(made, model_moved(width, move, word), (width, move, word))
            self.assertEqual(told(table, word), made, (width, move, word))
            self.assertEqual(model_told(width, table, word), made, (width, move, word))
        back = move_of(width, table)
        self.assertIs(type(back), list)
        self.assertTrue(all(type(source) is int for source in back), back)
        self.assertEqual(back, move)

    def test_by_hand(self):
        self.assertEqual(moved(4, [3, 0, -1, -2], 0b0001), 0b1010)
        self.assertEqual(moved(4, [3, 0, -1, -2], 0b1000), 0b1001)
        self.assertEqual(moved(4, [3, 0, -1, -2], 0b0110), 0b1000)
        self.assertEqual(moved(4, [1, 1, 1, 0], 0b0010), 0b0111)
        self.assertEqual(move_table(4, [3, 0, -1, -2]), (0b1000, [0b0010, 0, 0, 0b0001]))
        self.assertEqual(move_table(4, [1, 1, 1, 0]), (0, [0b1000, 0b0111, 0, 0]))
        self.assertEqual(move_of(4, (0b1000, [0b0010, 0, 0, 0b0001])), [3, 0, -1, -2])
        self.assertEqual(move_of(4, (0, [0b1000, 0b0111, 0, 0])), [1, 1, 1, 0])

    def test_moves_of_each_kind(self):
        for width in WIDTHS:
            for move in moves(width):
                self.holds(width, move, settling_words(width))

    def test_all_moves_of_small_widths(self):
        for width in (1, 2, 4):
            for move in all_moves(width):
                self.holds(width, move, range(2 ** width))

    def test_one_bit_fixed_each_way(self):
        for width in WIDTHS:
            for place in range(width):
                for fixed in (-1, -2):
                    move = list(range(width))
                    move[place] = fixed
                    awaited = [0, 2 ** place][fixed == -2]
                    self.assertEqual(moved(width, move, every(width)) & 2 ** place, awaited)
                    self.assertEqual(moved(width, move, 0), awaited)
                    self.assertEqual(move_of(width, move_table(width, move)), move)

    def test_one_behind_the_other(self):
        for width in WIDTHS:
            first, second = moves(width)[-4:-2]
            through = joined(move_table(width, first), move_table(width, second))
            awaited = [source if source < 0 else first[source] for source in second]
            self.assertEqual(move_of(width, through), awaited)


class NoMoves(unittest.TestCase):
    def test_a_bit_of_two_columns(self):
        for width in WIDTHS[1:]:
            for place in {0, width // 2, width - 1}:
                columns = [2 ** k for k in range(width)]
                columns[(place + 1) % width] += 2 ** place
                self.assertIsNone(move_of(width, (0, columns)), (width, place))

    def test_a_bit_of_every_column(self):
        for width in WIDTHS[1:]:
            self.assertIsNone(move_of(width, (0, [1] * width)))
            self.assertIsNone(move_of(width, (0, [2 ** (width - 1)] * width)))
            self.assertIsNone(move_of(width, (0, [every(width)] * width)))

    def test_a_column_and_the_start_too(self):
        for width in WIDTHS:
            for place in range(width):
                columns = [2 ** k for k in range(width)]
                self.assertIsNone(move_of(width, (2 ** place, columns)), (width, place))
                # Where no column has the bit, the start may have it.
                columns[place] = 0
                awaited = list(range(width))
                awaited[place] = -2
                self.assertEqual(move_of(width, (2 ** place, columns)), awaited)

    def test_two_columns_and_the_start_too(self):
        for width in WIDTHS[1:]:
            self.assertIsNone(move_of(width, (1, [1, 1] + [0] * (width - 2))))

    def test_a_bit_beside_anothers(self):
        # A column may have many bits; but none of them may stand in another column too.
        self.assertEqual(move_of(4, (0, [0b0111, 0b1000, 0, 0])), [0, 0, 0, 1])
        self.assertIsNone(move_of(4, (0, [0b0111, 0b1100, 0, 0])))
        self.assertIsNone(move_of(4, (0, [0b0111, 0, 0, 0b0001])))

    def test_all_tables_of_small_widths(self):
        for width in (1, 2):
            known = {str(move_table(width, move)): move for move in all_moves(width)}
            for number in range(2 ** (width * (width + 1))):
                some = [number // 2 ** (width * k) % 2 ** width for k in range(width + 1)]
                table = (some[0], some[1:])
                self.assertEqual(move_of(width, table), known.get(str(table)), table)

    def test_tables_of_chance(self):
        for width in WIDTHS[2:]:
            chance = random.Random(f"no move {width}")
            for move in moves(width):
                start, columns = move_table(width, move)
                place = chance.randrange(width)
                source = chance.randrange(width)
                columns[source] ^= 2 ** place
                # The bit was fixed at 0, or came from this column alone: then it still is a move, of another table.
                still = move[place] == -1 or move[place] == source
                found = move_of(width, (start, columns))
                self.assertEqual(found is not None, still, (move, place, source))
                if still:
                    awaited = list(move)
                    awaited[place] = source if move[place] == -1 else -1
                    self.assertEqual(found, awaited)


class Rows(unittest.TestCase):
    def holds(self, width, rows, most, model):
        self.assertTrue(is_row(width, rows), rows)
        self.assertLessEqual(len(rows), most)
        for word in settling_words(width):
            self.assertEqual(answer(width, rows, word), model(width, word), (width, word))

    def test_turned_about(self):
        for width in WIDTHS:
            self.holds(width, about_rows(width), 6 * TIMES_TWO[width], model_about)

    def test_running_sums(self):
        for width in WIDTHS:
            self.holds(width, running_rows(width), 2 * TIMES_TWO[width], model_running)

    def test_running_sums_undone(self):
        def model(width, word):
            given = bits(width, word)
            return word_of([(given[place] + (given[place - 1] if place > 0 else 0)) % 2 for place in range(width)])

        for width in WIDTHS:
            self.holds(width, undone_rows(width), 2, model)

    def test_by_hand(self):
        self.assertEqual(answer(8, about_rows(8), 0b00010011), 0b11001000)
        self.assertEqual(answer(8, running_rows(8), 0b00010010), 0b00001110)
        self.assertEqual(answer(8, undone_rows(8), 0b00001110), 0b00010010)

    def test_width_one(self):
        self.assertEqual(about_rows(1), [])
        self.assertEqual(running_rows(1), [])
        for word in (0, 1):
            self.assertEqual(answer(1, undone_rows(1), word), word)

    def test_all_words_of_small_widths(self):
        for width in (1, 2, 4, 8):
            for word in range(2 ** width):
                self.assertEqual(answer(width, about_rows(width), word), model_about(width, word))
                self.assertEqual(answer(width, running_rows(width), word), model_running(width, word))
                self.assertEqual(answer(width, undone_rows(width), model_running(width, word)), word)

    def test_turned_about_twice(self):
        for width in WIDTHS:
            twice = behind(about_rows(width), about_rows(width))
            for word in settling_words(width):
                self.assertEqual(answer(width, twice, word), word)

    def test_one_by_the_other_undone(self):
        for width in WIDTHS:
            for first, second in ((running_rows, undone_rows), (undone_rows, running_rows)):
                both = behind(first(width), second(width))
                for word in settling_words(width):
                    self.assertEqual(answer(width, both, word), word)

    def test_turned_about_is_a_move(self):
        for width in WIDTHS:
            self.assertEqual(move_of(width, table_of(width, about_rows(width))), list(range(width))[::-1])
            running = move_of(width, table_of(width, running_rows(width)))
            self.assertEqual(running, None if width > 1 else [0])
            for word in sample_words(width):
                self.assertEqual(moved(width, list(range(width))[::-1], word), model_about(width, word))


if __name__ == "__main__":
    unittest.main()
