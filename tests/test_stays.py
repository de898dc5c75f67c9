"""Point 3: what is handed in stays, and what is told is the asker's own."""

import unittest

from bitferry.deeds import answer, behind, values
from bitferry.errors import NoDeed
from bitferry.text import read, shown
from helper import random_row


class HandedIn(unittest.TestCase):
    def setUp(self):
        self.row = random_row("stays", 16, 12)
        self.kept = list(self.row)

    def test_rows_stay(self):
        values(16, self.row, 77)
        answer(16, self.row, 77)
        shown(self.row)
        behind(self.row, [("turn", 0, 1)])
        behind([("turn", 0, 1)], self.row)
        behind(self.row, self.row)
        behind(self.row, [])
        behind([], self.row)
        self.assertEqual(self.row, self.kept)

    def test_lines_stay(self):
        lines = shown(self.row)
        read(16, lines)
        self.assertEqual(lines, shown(self.kept))

    def test_refused_lines_stay(self):
        lines = ["fix 5", "mask 1 3", "mask 9 3"]
        with self.assertRaises(NoDeed):
            read(8, lines)
        self.assertEqual(lines, ["fix 5", "mask 1 3", "mask 9 3"])

    def test_changed_behind_the_call(self):
        lines = shown(self.row)
        told = (values(16, self.row, 9), behind(self.row, self.row), shown(self.row), read(16, lines))
        kept = tuple(list(some) for some in told)
        self.row.clear()
        lines[0] = "fix 1"
        self.assertEqual(told, kept)


class Told(unittest.TestCase):
    def own(self, ask):
        """The list told by ask is spoilt; what is told next is as it was."""
        first = ask()
        kept = list(first)
        second = ask()
        first.reverse()
        first.append("spoilt")
        self.assertEqual(second, kept)
        self.assertEqual(ask(), kept)

    def test_each_told_list(self):
        row = random_row("told", 16, 12)
        lines = shown(row)
        for some in ([], row):
            self.own(lambda: values(16, some, 5))
            self.own(lambda: shown(some))
            self.own(lambda: behind(some, row))
            self.own(lambda: behind(row, some))
            self.own(lambda: behind(some, some))
        self.own(lambda: read(16, lines))
        self.own(lambda: read(16, []))

    def test_a_told_row_is_neither_of_the_rows(self):
        row = random_row("other", 16, 5)
        kept = list(row)
        for told in (behind(row, []), behind([], row)):
            told.clear()
            self.assertEqual(row, kept)


if __name__ == "__main__":
    unittest.main()
