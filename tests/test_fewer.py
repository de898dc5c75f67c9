"""Point 15: rows of deeds made fewer."""

import itertools
import random
import unittest

from bitferry.deeds import answer, behind
from bitferry.exchanges import exchanges_of, rows_by
from bitferry.fewer import fewer
from bitferry.moves import about_rows, running_rows, undone_rows
from bitferry.pressing import press_rows, spread_rows
from bitferry.tables import rows_of, table_of
from helper import NAMES, WIDTHS, every, is_row, model_values, random_deed, random_row, random_table, settling_words


def faults(width, rows):
    """What the told form of a row made fewer rules out, and where."""
    found = []
    used = {len(rows)}
    for deed in rows:
        used |= {"fix": set(), "both": set(deed[1:])}.get(deed[0], set(deed[1:2]))
    found += [f"{number} is not used" for number in range(1, len(rows)) if number not in used]
    alike = [("both",) + tuple(sorted(deed[1:])) if deed[0] == "both" else deed for deed in rows]
    found += [f"{deed} is there twice" for deed in alike if alike.count(deed) > 1]
    empty = {"mask": (0, every(width)), "turn": (0,), "up": (0, width), "down": (0, width)}
    found += [f"{deed} does nothing" for deed in rows if deed[-1] in empty.get(deed[0], ())]
    found += [f"{deed} sums one value" for deed in rows if deed[0] == "both" and deed[1] == deed[2]]
    return found


def small_deeds(width, ahead):
    """Every deed that may stand behind so many."""
    words, numbers = range(2 ** width), range(ahead + 1)
    yield from (("fix", word) for word in words)
    yield from ((name, value, word) for name in ("mask", "turn") for value in numbers for word in words)
    yield from (("both", value, other) for value in numbers for other in numbers)
    yield from ((name, value, far) for name in ("up", "down") for value in numbers for far in range(width + 1))


class Fewer(unittest.TestCase):
    def holds(self, width, rows):
        told = fewer(width, rows)
        self.assertTrue(is_row(width, told), told)
        self.assertLessEqual(len(told), len(rows))
        self.assertEqual(faults(width, told), [], (width, rows, told))
        for word in settling_words(width):
            self.assertEqual(answer(width, told, word), answer(width, rows, word), (width, rows, word))
        return told

    def holds_twice(self, width, rows):
        once = self.holds(width, rows)
        again = self.holds(width, once)
        self.assertLessEqual(len(again), len(once))
        self.assertEqual(table_of(width, again), table_of(width, rows))

    def test_no_deeds(self):
        for width in WIDTHS:
            self.assertEqual(fewer(width, []), [])

    def test_each_deed_alone(self):
        for width in WIDTHS:
            words = {0, 1, every(width), 2 ** (width - 1)}
            for word in words:
                for deed in (("fix", word), ("mask", 0, word), ("turn", 0, word)):
                    self.holds_twice(width, [deed])
            for far in {0, 1, width // 2, width - 1, width}:
                self.holds_twice(width, [("up", 0, far)])
                self.holds_twice(width, [("down", 0, far)])
            self.holds_twice(width, [("both", 0, 0)])

    def test_deeds_that_leave_the_word_as_it_is(self):
        for width in WIDTHS:
            for deed in (("mask", 0, every(width)), ("turn", 0, 0), ("up", 0, 0), ("down", 0, 0)):
                self.assertEqual(fewer(width, [deed]), [])
                self.holds_twice(width, [deed, ("up", 1, 1), ("turn", 1, 1), ("both", 2, 3)])
                self.holds_twice(width, [("turn", 0, 1), (deed[0], 1, deed[2]), ("up", 2, 1), ("both", 3, 2)])

    def test_deeds_that_leave_nothing(self):
        for width in WIDTHS:
            for deed in (("mask", 0, 0), ("up", 0, width), ("down", 0, width), ("both", 0, 0)):
                self.assertEqual(len(self.holds(width, [deed])), 1)
                self.holds_twice(width, [deed, ("both", 0, 1)])
                self.holds_twice(width, [deed, ("turn", 1, 1)])
                self.holds_twice(width, [deed, ("turn", 1, 1), ("both", 0, 2), ("up", 1, 1), ("both", 3, 4)])

    def test_nothing_made_in_each_way_beside_another(self):
        for width in WIDTHS:
            some = [("mask", 0, 0), ("up", 0, width), ("down", 0, width), ("both", 0, 0), ("fix", 0)]
            for row in itertools.permutations(some, 4):
                self.holds_twice(width, list(row))
                self.holds_twice(width, list(row) + [("both", 1, 2), ("both", 0, 5), ("both", 3, 6), ("turn", 7, 1)])

    def test_deeds_told_twice(self):
        for width in WIDTHS:
            for name in NAMES:
                deed = random_deed(random.Random(f"twice {name}"), width, 0, name)
                self.holds_twice(width, [deed, deed])
                self.holds_twice(width, [deed, deed, ("both", 1, 2)])
                self.holds_twice(width, [deed, ("turn", 0, 1), deed, ("both", 1, 2), ("both", 3, 2), ("both", 0, 5)])
            self.assertEqual(len(fewer(width, [("turn", 0, 1), ("turn", 0, 1)])), 1)

    def test_both_with_a_and_b_exchanged(self):
        for width in WIDTHS[1:]:
            row = [("up", 0, 1), ("both", 0, 1), ("both", 1, 0), ("mask", 3, 1), ("both", 2, 4)]
            self.assertLess(len(self.holds(width, row)), len(row))
            self.holds_twice(width, row)
            self.holds_twice(width, row[:3])
            self.holds_twice(width, row[:3] + [("both", 2, 3), ("both", 3, 2), ("both", 4, 0), ("both", 0, 5)])

    def test_alike_only_behind_others_left_out(self):
        # Values 2 and 4 are alike once 1 and 3 are known to be, and so are 5 and 6; so they sum to 0.
        row = [("turn", 0, 1), ("up", 1, 1), ("turn", 0, 1), ("up", 3, 1)]
        row += [("both", 2, 0), ("both", 0, 4), ("both", 5, 6)]
        for width in WIDTHS:
            for size in range(len(row) + 1):
                self.holds_twice(width, row[:size])
            self.assertEqual(table_of(width, fewer(width, row)), (0, [0] * width))
            self.holds_twice(width, row + [("both", 0, 7)])

    def test_values_that_nobody_uses(self):
        for width in WIDTHS:
            row = [("turn", 0, 1), ("fix", 1), ("up", 1, 1), ("mask", 3, 1), ("turn", 0, 1)]
            self.assertEqual(len(self.holds(width, row)), 1)
            unused = random_row("unused", width, 20)
            self.assertEqual(len(self.holds(width, unused + [("turn", 0, 1)])), 1)
            self.assertEqual(fewer(width, unused + [("up", 0, 0)]), [])

    def test_used_only_by_what_nobody_uses(self):
        row = [("up", 0, 1), ("turn", 1, 1), ("down", 2, 1), ("mask", 0, 3)]
        self.assertEqual(fewer(4, row), [("mask", 0, 3)])

    def test_last_deed_by_a_value_at_the_begin(self):
        for width in WIDTHS:
            row = random_row("begin", width, 15)
            for deed in (("up", 0, 0), ("turn", 1, 0), ("turn", 2, 1), ("both", 0, 1), ("both", 2, 1), ("mask", 1, 1)):
                self.holds_twice(width, row + [deed])

    def test_answer_is_the_word_again(self):
        for width in WIDTHS:
            for row in ([("turn", 0, 1), ("turn", 1, 1)], [("fix", 1), ("both", 0, 1), ("both", 1, 2)],
                        [("up", 0, 1), ("both", 0, 1), ("both", 2, 1)]):
                self.assertEqual(fewer(width, row), [])

    def test_answer_is_the_same_for_all_words(self):
        for width in WIDTHS:
            row = [("turn", 0, 1), ("both", 0, 1), ("up", 2, width - 1), ("turn", 3, 1)]
            self.assertEqual(len(self.holds(width, row)), 1)

    def test_what_cannot_be_fewer_stays(self):
        self.assertEqual(len(fewer(8, [("mask", 0, 15), ("up", 1, 4)])), 2)
        self.assertEqual(len(fewer(8, [("fix", 5)])), 1)
        self.assertEqual(len(fewer(8, [("fix", 0)])), 1)

    def test_all_rows_of_two_deeds(self):
        for width in (1, 2):
            for first in small_deeds(width, 0):
                for second in small_deeds(width, 1):
                    self.holds(width, [first, second])

    def test_many_rows_of_all_kinds(self):
        for width in WIDTHS:
            for seed in range(40):
                self.holds_twice(width, random_row(f"fewer {seed}", width, seed))

    def test_many_rows_of_few_values(self):
        # Few numbers to choose from: many deeds are alike, or become so.
        for width in WIDTHS:
            chance = random.Random(f"few {width}")
            for size in range(40):
                row = []
                for ahead in range(size):
                    name = chance.choice(("both", "both", "turn", "mask", "up", "down"))
                    value = max(0, ahead - chance.randrange(3))
                    last = {"both": max(0, ahead - chance.randrange(3)), "up": 1, "down": 1}
                    row.append((name, value, last.get(name, chance.choice((1, every(width))))))
                self.holds_twice(width, row)

    def test_against_values_told_bit_by_bit(self):
        for width in WIDTHS:
            for seed in range(12):
                row = random_row(f"bits {seed}", width, seed)
                made = fewer(width, row)
                for word in settling_words(width):
                    awaited = model_values(width, row, word)[-1]
                    self.assertEqual(model_values(width, made, word)[-1], awaited, (width, row, word))

    def test_rows_that_the_program_tells(self):
        for width in WIDTHS:
            table = random_table("fewer", width)
            for row in (about_rows(width), running_rows(width), undone_rows(width), rows_of(width, table)):
                self.holds_twice(width, row)
                self.holds_twice(width, behind(row, row))
            for mask in (0, 1, every(width), table[0]):
                self.holds_twice(width, behind(press_rows(width, mask), spread_rows(width, mask)))
            order = random.Random(width).sample(range(width), width)
            self.holds_twice(width, rows_by(exchanges_of(width, order)))

    def test_undone_is_no_deeds(self):
        for width in WIDTHS:
            self.assertEqual(fewer(width, behind(running_rows(width), undone_rows(width))), [])
            self.assertEqual(fewer(width, behind(about_rows(width), about_rows(width))), [])

    def test_long_rows(self):
        for width in (1, 8, 64):
            self.holds_twice(width, random_row("long", width, 1000))
            steps = [("turn", number, number % 2) for number in range(1000)]
            self.holds_twice(width, steps)
            self.holds_twice(width, [("both", number, max(0, number - 1)) for number in range(1000)])


class Faults(unittest.TestCase):
    """The reader of the told form itself sees what it is there for."""

    def test_each_clause(self):
        for row in ([("up", 0, 1), ("turn", 0, 1)], [("up", 0, 1), ("up", 0, 1), ("both", 1, 2)],
                    [("up", 0, 1), ("both", 0, 1), ("both", 1, 0), ("both", 2, 3)], [("mask", 0, 15)], [("mask", 0, 0)],
                    [("turn", 0, 0)], [("up", 0, 0)], [("up", 0, 4)], [("down", 0, 0)], [("down", 0, 4)],
                    [("both", 0, 0)]):
            self.assertNotEqual(faults(4, row), [], row)

    def test_what_may_stand(self):
        for row in ([], [("fix", 0)], [("fix", 15)], [("up", 0, 1), ("both", 0, 1)], [("fix", 0), ("both", 0, 1)],
                    [("turn", 0, 15), ("down", 1, 3), ("both", 2, 1)]):
            self.assertEqual(faults(4, row), [], row)


if __name__ == "__main__":
    unittest.main()
