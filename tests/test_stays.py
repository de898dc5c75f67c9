"""Point 3: what is handed in stays, and what is told is the asker's own."""

import copy
import unittest

from bitferry.deeds import answer, behind, values
from bitferry.errors import NoDeed, NoWay
from bitferry.exchanges import exchanged, exchanges_of, is_good, rows_by
from bitferry.fewer import fewer
from bitferry.moves import about_rows, move_of, move_table, moved, running_rows, undone_rows
from bitferry.pressing import press_rows, pressed, spread, spread_rows
from bitferry.tables import joined, rows_of, table_of, told, unlike
from bitferry.text import read, shown
from bitferry.turned import like_words, turned_back, whence
from helper import WIDTHS, every, random_row, random_table


class HandedIn(unittest.TestCase):
    def setUp(self):
        self.row = random_row("stays", 16, 12)
        self.kept = list(self.row)

    def test_rows_stay(self):
        values(16, self.row, 77)
        answer(16, self.row, 77)
        shown(self.row)
        behind(self.row, [("turn", 0, 1)])
        behind([("turn", 0, 1)], self.row)
        behind(self.row, self.row)
        behind(self.row, [])
        behind([], self.row)
        self.assertEqual(self.row, self.kept)

    def test_lines_stay(self):
        lines = shown(self.row)
        read(16, lines)
        self.assertEqual(lines, shown(self.kept))

    def test_refused_lines_stay(self):
        lines = ["fix 5", "mask 1 3", "mask 9 3"]
        with self.assertRaises(NoDeed):
            read(8, lines)
        self.assertEqual(lines, ["fix 5", "mask 1 3", "mask 9 3"])

    def test_changed_behind_the_call(self):
        lines = shown(self.row)
        told = (values(16, self.row, 9), behind(self.row, self.row), shown(self.row), read(16, lines))
        kept = tuple(list(some) for some in told)
        self.row.clear()
        lines[0] = "fix 1"
        self.assertEqual(told, kept)


class Told(unittest.TestCase):
    def own(self, ask):
        """The list told by ask is spoilt; what is told next is as it was."""
        first = ask()
        kept = list(first)
        second = ask()
        first.reverse()
        first.append("spoilt")
        self.assertEqual(second, kept)
        self.assertEqual(ask(), kept)

    def test_each_told_list(self):
        row = random_row("told", 16, 12)
        lines = shown(row)
        for some in ([], row):
            self.own(lambda: values(16, some, 5))
            self.own(lambda: shown(some))
            self.own(lambda: behind(some, row))
            self.own(lambda: behind(row, some))
            self.own(lambda: behind(some, some))
        self.own(lambda: read(16, lines))
        self.own(lambda: read(16, []))

    def test_a_told_row_is_neither_of_the_rows(self):
        row = random_row("other", 16, 5)
        kept = list(row)
        for told in (behind(row, []), behind([], row)):
            told.clear()
            self.assertEqual(row, kept)


def spoil(thing):
    """Every list in the thing, however deep, is changed."""
    if isinstance(thing, (list, tuple)):
        for part in thing:
            spoil(part)
    if isinstance(thing, list):
        thing.reverse()
        thing.append("spoilt")


def calls(width):
    """A call of each function of stages 2 to 7, and of some with things that could be told as they were handed in."""
    row = random_row("calls", width, 9)
    table = random_table("calls", width)
    same = (0, [2 ** place for place in range(width)])
    about = list(range(width - 1, -1, -1))
    some = [(1, width - 1), (0, 1), (1, 1)] if width > 1 else []
    asked = [(table_of, width, row), (table_of, width, []), (told, table, 1), (unlike, table, same)]
    asked += [(unlike, table, table), (joined, table, same), (joined, same, table), (joined, table, table)]
    asked += [(rows_of, width, table), (rows_of, width, same), (rows_of, width, (1, [0] * width))]
    asked += [(turned_back, width, same), (turned_back, width, (1, list(reversed(same[1]))))]
    asked += [(like_words, width, table), (like_words, width, same), (like_words, width, (1, [0] * width))]
    asked += [(whence, width, table, 1), (whence, width, same, 1), (whence, width, (1, [0] * width), 0)]
    asked += [(is_good, width, (1, 1)), (exchanged, 1, some), (rows_by, some), (rows_by, []), (rows_by, some[:1])]
    asked += [(exchanges_of, width, about), (exchanges_of, width, list(range(width)))]
    for mask in (0, 1, every(width)):
        asked += [(pressed, width, 1, mask), (spread, width, 1, mask)]
        asked += [(press_rows, width, mask), (spread_rows, width, mask)]
    for move in (about, list(range(width)), [-1] * width, [-2] * width):
        asked += [(moved, width, move, 1), (move_table, width, move), (move_of, width, move_table(width, move))]
    asked += [(move_of, width, (1, [1] * width)), (about_rows, width), (running_rows, width), (undone_rows, width)]
    for rows in ([], row, [("turn", 0, 1)], [("up", 0, 0)], [("fix", 1)], [("turn", 0, 1), ("both", 0, 1)]):
        asked += [(fewer, width, rows)]
    # Copied one by one: what is spoilt for one call is not handed in to the next.
    return [copy.deepcopy(call) for call in asked]


class AllOfStagesTwoToSeven(unittest.TestCase):
    def test_what_is_handed_in_stays(self):
        for width in WIDTHS:
            for ask, *given in calls(width):
                kept = copy.deepcopy(given)
                ask(*given)
                self.assertEqual(given, kept, (ask.__name__, width))

    def test_what_is_refused_stays(self):
        table = (3, [1, 2, 3, 0])
        with self.assertRaises(NoWay):
            turned_back(4, table)
        self.assertEqual(table, (3, [1, 2, 3, 0]))

    def test_what_is_told_is_the_askers_own(self):
        for width in WIDTHS:
            for ask, *given in calls(width):
                first = ask(*given)
                kept = copy.deepcopy(first)
                second = ask(*given)
                spoil(first)
                self.assertEqual(second, kept, (ask.__name__, width))
                self.assertEqual(ask(*given), kept, (ask.__name__, width))

    def test_spoiling_what_is_told_spoils_nothing_handed_in(self):
        for width in WIDTHS:
            for ask, *given in calls(width):
                kept = copy.deepcopy(given)
                spoil(ask(*given))
                self.assertEqual(given, kept, (ask.__name__, width))

    def test_changed_behind_the_call(self):
        for width in WIDTHS:
            for ask, *given in calls(width):
                answered = ask(*given)
                kept = copy.deepcopy(answered)
                spoil(given)
                self.assertEqual(answered, kept, (ask.__name__, width))


if __name__ == "__main__":
    unittest.main()
