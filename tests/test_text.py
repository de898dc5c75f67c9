"""Point 5: rows written as lines, and just such lines read."""

import unittest

from bitferry.errors import FerryError, NoDeed, NoLine, NoOrder, NoWay
from bitferry.text import read, shown
from helper import WIDTHS, every, random_row


class Shown(unittest.TestCase):
    def test_each_deed(self):
        rows = [("fix", 5), ("mask", 0, 12), ("both", 1, 0), ("up", 2, 3), ("turn", 3, 0), ("down", 5, 8)]
        self.assertEqual(shown(rows), ["fix 5", "mask 0 12", "both 1 0", "up 2 3", "turn 3 0", "down 5 8"])

    def test_no_deeds(self):
        self.assertEqual(shown([]), [])

    def test_great_numbers(self):
        self.assertEqual(shown([("fix", every(64))]), ["fix 18446744073709551615"])

    def test_kinds(self):
        told = shown(random_row("kinds", 8, 20))
        self.assertIs(type(told), list)
        self.assertTrue(all(type(line) is str for line in told))


class Read(unittest.TestCase):
    def test_each_deed(self):
        lines = ["fix 5", "mask 0 12", "both 1 0", "up 2 3", "turn 3 0", "down 5 8"]
        rows = [("fix", 5), ("mask", 0, 12), ("both", 1, 0), ("up", 2, 3), ("turn", 3, 0), ("down", 5, 8)]
        self.assertEqual(read(8, lines), rows)

    def test_kinds(self):
        told = read(8, ["fix 5", "mask 0 12", "both 1 0"])
        self.assertIs(type(told), list)
        for deed in told:
            self.assertIs(type(deed), tuple)
            self.assertIs(type(deed[0]), str)
            self.assertTrue(all(type(number) is int for number in deed[1:]))

    def test_no_deeds(self):
        for width in WIDTHS:
            self.assertEqual(read(width, []), [])

    def test_written_and_read_again(self):
        for width in WIDTHS:
            for seed in range(20):
                rows = random_row(seed, width, seed * 3)
                self.assertEqual(read(width, shown(rows)), rows)
                self.assertEqual(shown(read(width, shown(rows))), shown(rows))

    def test_a_thousand_lines(self):
        rows = random_row("long", 64, 1000)
        self.assertEqual(read(64, shown(rows)), rows)

    def test_numbers_at_their_bound(self):
        for width in WIDTHS:
            full = every(width)
            lines = ["fix 0", f"fix {full}", "mask 2 0", f"mask 3 {full}", "turn 4 0", f"turn 5 {full}"]
            lines += ["up 6 0", f"up 7 {width}", "down 8 0", f"down 9 {width}", "both 10 0", "both 0 11", "both 12 12"]
            self.assertEqual(shown(read(width, lines)), lines)


class Refused(unittest.TestCase):
    def refused(self, width, lines):
        with self.assertRaises(NoDeed, msg=(width, lines)) as caught:
            read(width, lines)
        self.assertIsInstance(caught.exception, FerryError)
        self.assertIsInstance(caught.exception, ValueError)
        self.assertNotIsInstance(caught.exception, (NoWay, NoOrder, NoLine))

    def refused_each(self, width, lines):
        for line in lines:
            self.refused(width, [line])
            self.refused(width, ["fix 0", line])
            self.refused(width, [line, "fix 0"])

    def test_one_beyond_the_bound(self):
        for width in WIDTHS:
            beyond = 2 ** width
            self.refused_each(width, [f"fix {beyond}", f"mask 0 {beyond}", f"turn 0 {beyond}"])
            self.refused_each(width, [f"up 0 {width + 1}", f"down 0 {width + 1}", f"fix {10 * beyond}"])

    def test_values_that_are_not_made_ahead(self):
        for ahead in (0, 1, 2, 9, 10, 99, 100):
            lines = ["turn 0 1"] * ahead
            for line in ("mask {} 1", "turn {} 1", "up {} 1", "down {} 1", "both {} 0", "both 0 {}"):
                self.assertEqual(len(read(8, lines + [line.format(ahead)])), ahead + 1)
                self.refused(8, lines + [line.format(ahead + 1)])
                self.refused(8, lines + [line.format(ahead + 1)] + ["fix 1"] * 3)

    def test_other_words(self):
        self.refused_each(8, ["fox 5", "Fix 5", "FIX 5", "fixx 5", "fi 5", "5", "5 fix", "and 0 1", "order 0 1", "/"])
        self.refused_each(8, ["fix", "mask", "turn", "both", "up", "down", "fix,5", "fix5", "mask0 1", "~", "\"fix\" 5"])

    def test_too_few_or_too_many(self):
        self.refused_each(8, ["fix 1 0", "fix 0 0 0", "mask 0", "turn 0", "both 0", "up 0", "down 0"])
        self.refused_each(8, ["mask 0 1 0", "turn 0 1 0", "both 0 0 0", "up 0 1 0", "down 0 1 0", "fix 1 fix 1"])

    def test_a_nought_ahead(self):
        self.refused_each(8, ["fix 00", "fix 05", "mask 00 1", "mask 0 01", "turn 0 00", "both 00 0", "both 0 00"])
        self.refused_each(8, ["up 0 01", "down 00 1", "fix 000000005"])

    def test_a_sign(self):
        self.refused_each(8, ["fix +5", "fix -5", "fix -0", "fix +0", "mask -1 1", "mask 0 -1", "turn 0 +1", "both 0 -0"])
        self.refused_each(8, ["up 0 -1", "down 0 +1", "down -1 1", "fix - 5", "fix ~5"])

    def test_blanks(self):
        for line in ("fix 5", "mask 0 12", "turn 0 3", "both 0 0", "up 0 3", "down 0 1"):
            self.assertEqual(shown(read(8, [line])), [line])
            self.refused_each(8, [" " + line, line + " ", line.replace(" ", "  ", 1), line.replace(" ", "  ")])
            self.refused_each(8, ["  " + line, line + "  ", line.replace(" ", "")])
        self.refused_each(8, ["mask 0  12", "mask  0 12", "fix ", " 5", "mask 0 ", "mask  0", "f ix 5", "fix 1 2"])

    def test_other_blanks(self):
        self.refused_each(8, ["fix\t5", "fix 5\n", "\nfix 5", "fix 5\t", "fix\n5", "fix\u00a05", "fix 5\r"])

    def test_the_empty_line(self):
        self.refused_each(8, ["", " ", "  "])

    def test_signs_that_are_no_figures(self):
        self.refused_each(8, ["fix x", "fix 0x5", "fix 5a", "fix 1_0", "fix 1,0", "fix 1.0", "fix 1e1", "fix 5.", "fix (5)"])
        self.refused_each(8, ["mask a 1", "mask 0 b", "turn 0 1_0", "both x 0", "both 0 x", "up 0 y", "down z 1"])
        self.refused_each(8, ["fix True", "fix None", "fix \"5\"", "fix 5;", "fix #5", "fix 5:", "fix /5"])

    def test_figures_of_other_scripts(self):
        self.refused_each(8, ["fix \u0665", "fix \u00b2", "fix \uff15", "mask \u0660 1", "up 0 \u0661"])

    def test_very_many_figures(self):
        for count in (21, 55, 400, 5000):
            self.refused_each(64, [f"{start} {'9' * count}" for start in ("fix", "mask 0", "turn 0", "up 0", "both 0")])
            self.refused_each(64, [f"mask {'1' * count} 1", f"down 0 {'1' + '0' * count}", f"fix {'0' * count}"])

    def test_sixty_signs(self):
        for sign in ("x", "0", "~", " "):
            self.refused_each(8, [("fix " + sign * 60)[:60], sign * 60])

    def test_what_one_width_takes_another_refuses(self):
        for narrow, wide in zip(WIDTHS, WIDTHS[1:]):
            for line in (f"fix {every(wide)}", f"mask 0 {2 ** narrow}", f"up 0 {wide}", f"down 0 {narrow + 1}"):
                self.assertEqual(shown(read(wide, [line])), [line])
                self.refused(narrow, [line])

    def test_a_refusal_late_in_a_long_list(self):
        self.refused(8, ["turn 0 1"] * 999 + ["turn 1000 1"])
        self.assertEqual(len(read(8, ["turn 0 1"] * 999 + ["turn 999 1"])), 1000)


if __name__ == "__main__":
    unittest.main()
