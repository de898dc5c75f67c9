"""Point 17: what a desk refuses, and that a refused line changes nothing."""

import unittest

from bitferry.desk import Desk
from bitferry.errors import FerryError, NoDeed, NoLine, NoOrder, NoWay
from helper import WIDTHS, every, sample_words

REFUSALS = (NoLine, NoDeed, NoOrder, NoWay)
# A row of three deeds behind what was done, none of it lost.
LINES_AHEAD = ("running", "do turn 0 1", "do up 1 1", "do both 1 2")
IN_ORDER = {width: ",".join(str(place) for place in range(width)) for width in WIDTHS}


def desk_of(width, lines=()):
    desk = Desk()
    desk.say(f"width {width}")
    for line in lines:
        desk.say(line)
    return desk


class Refusing(unittest.TestCase):
    def refused(self, desk, line, awaited):
        with self.assertRaises(ValueError, msg=line) as caught:
            desk.say(line)
        for refusal in REFUSALS:
            self.assertEqual(isinstance(caught.exception, refusal), refusal is awaited, (line, caught.exception))
        self.assertIsInstance(caught.exception, FerryError, line)

    def refused_each(self, width, lines, awaited):
        """Each line is refused at the begin and behind others, and all answers and values behind it are as before."""
        for ahead in ((), LINES_AHEAD):
            desk, unasked = desk_of(width, ahead), desk_of(width, ahead)
            for line in lines:
                self.refused(desk, line, awaited)
            self.alike(width, desk, unasked, len(ahead[1:]))

    def alike(self, width, one, other, made):
        """The desks tell the same, and their rows have as many deeds: value number made is there, none behind it."""
        asked = [f"give {word}" for word in sample_words(width)] + ["same", "same turn 0 1", "lost"]
        for desk in (one, other):
            self.refused(desk, f"do mask {made + 1} 1", NoDeed)
        lines = asked + [f"do turn {made} 1", f"do both {made} {made + 1}"] + asked + ["about"] + asked
        for line in lines:
            self.assertEqual(one.say(line), other.say(line), line)


class NoLines(Refusing):
    def test_other_words(self):
        lines = ["Give 1", "GIVE 1", "gives 1", "giv 1", "5", "fix 5", "turn 0 1", "back1", "undo", "ok", "/", "~"]
        lines += ["give1", "width8", "Do fix 5", "dofix 5", "Same", "sames", "LOST", "none", "order,0", "press,1", ","]
        for width in WIDTHS:
            self.refused_each(width, lines, NoLine)

    def test_too_few_words(self):
        for width in WIDTHS:
            self.refused_each(width, ["width", "do", "order", "press", "spread", "give"], NoLine)

    def test_too_many_words(self):
        for width in WIDTHS:
            own = IN_ORDER[width]
            self.refused_each(width, ["width 8 8", "width 8 /", f"order {own} 0", f"order {own} {own}"], NoLine)
            self.refused_each(width, ["press 1 1", "spread 1 1", "give 1 1", "give 1 / 1", "press 1 ok"], NoLine)
            self.refused_each(width, ["about 1", "running 1", "back 1", "lost 1", "about about", "lost lost"], NoLine)
            self.refused_each(width, ["about 0 1", "running / 1", "back back back", "lost /"], NoLine)

    def test_blanks_too_many(self):
        for width in WIDTHS:
            some = [f"width {width}", "do fix 1", "do both 0 0", f"order {IN_ORDER[width]}", "press 1", "spread 1"]
            some += ["about", "running", "back", "give 1", "same", "same fix 1", "same fix 1 / turn 1 1", "lost"]
            for line in some:
                lines = [" " + line, line + " ", "  " + line, line + "  ", " " + line + " "]
                parts = line.split(" ")
                for gap in range(1, len(parts)):
                    lines.append(" ".join(parts[:gap]) + "  " + " ".join(parts[gap:]))
                    lines.append(" ".join(parts[:gap]) + "   " + " ".join(parts[gap:]))
                self.refused_each(width, lines, NoLine)

    def test_the_empty_line(self):
        for width in WIDTHS:
            self.refused_each(width, ["", " ", "  ", "     "], NoLine)

    def test_figures(self):
        for width in WIDTHS:
            for name in ("width", "press", "spread", "give", "order"):
                lines = [f"{name} {some}" for some in ("1" * 21, "9" * 21, "1" * 1000, "0" * 21, "1" + "0" * 2400)]
                self.refused_each(width, lines, NoLine)

    def test_a_nought_ahead(self):
        for width in WIDTHS:
            for name in ("width", "press", "spread", "give", "order"):
                lines = [f"{name} {some}" for some in ("00", "01", "08", "008", "0" * 20, "0" + "1" * 19)]
                self.refused_each(width, lines, NoLine)

    def test_signs_and_other_figures(self):
        some = ("-1", "+1", "-0", "+8", "--1", "x", "1x", "0x1", "1_0", "1.0", "1e1", "8,", "(1)", "one", "1/", "/")
        for width in WIDTHS:
            for name in ("width", "press", "spread", "give"):
                self.refused_each(width, [f"{name} {part}" for part in some], NoLine)

    def test_places_that_are_no_numbers_with_commas(self):
        some = (",", "0,", ",0", "0,,1", ",,", "0;1", "0.1", "0-1", "0,-1", "0,+1", "0,x", "x", "0,1x", "0,1,", "0,1_0")
        some += ("0,01", "00,1", "0,00", "0/1", "/", "[0]", "(0)", "-", "0,1.", "0,1e0", "0,0x1", "0," + "1" * 21)
        for width in WIDTHS:
            self.refused_each(width, [f"order {part}" for part in some], NoLine)
            own = IN_ORDER[width]
            self.refused_each(width, [f"order {own},", f"order ,{own}", f"order {own},,", f"order 0{own}"], NoLine)

    def test_places_with_blanks(self):
        for width in WIDTHS[1:]:
            for gap in (", ", " ", " ,", " , "):
                self.refused_each(width, ["order " + IN_ORDER[width].replace(",", gap, 1)], NoLine)

    def test_no_width(self):
        lines = [f"width {number}" for number in range(130) if number not in WIDTHS]
        lines += ["width 255", "width 256", "width 1024", "width " + "9" * 20, "width 18446744073709551616"]
        for width in WIDTHS:
            self.refused_each(width, lines, NoLine)


class NoDeeds(Refusing):
    def no_deeds(self, width, ahead):
        """Lines that are no deed behind so many deeds."""
        full = every(width)
        lines = ["fix", "fix 1 1", f"fix {full + 1}", "fix 01", "fix -1", "fix x", "mask 0", "mask 0 1 1", "turn 0"]
        lines += [f"mask {ahead + 1} 1", f"turn {ahead + 1} 1", f"both {ahead + 1} 0", f"both 0 {ahead + 1}"]
        lines += [f"up {ahead + 1} 1", f"down {ahead + 1} 1", f"up 0 {width + 1}", f"down 0 {width + 1}"]
        lines += [f"mask 0 {full + 1}", f"turn 0 {full + 1}", "both 0", "both 0 0 0", "up 0", "down 0", "up 0 0 0"]
        lines += ["Fix 1", "FIX 1", "add 0 0", "1", "~", "do fix 1", "same", "give 1", "width 8", "fix 1 / fix", ","]
        lines += ["fix " + "1" * 21, "fix " + "0" * 21, "mask 0 " + "9" * 1000, "both 0 00", "both 00 0", "up 0 +1"]
        return lines

    def test_do(self):
        for width in WIDTHS:
            self.refused_each(width, ["do " + line for line in self.no_deeds(width, 3)], NoDeed)
            desk = desk_of(width)
            for line in self.no_deeds(width, 0):
                self.refused(desk, "do " + line, NoDeed)
            self.assertEqual(desk.say("same"), "yes")

    def test_do_parts_no_lines(self):
        for width in WIDTHS:
            self.refused_each(width, ["do /", "do fix 1 / fix 1", "do / fix 1", "do fix 1 /", "do fix 1/"], NoDeed)

    def test_same(self):
        for width in WIDTHS:
            alone = ["same " + line for line in self.no_deeds(width, 0)]
            behind = ["same fix 1 / turn 1 1 / " + line for line in self.no_deeds(width, 2)]
            ahead = [f"same {line} / fix 1" for line in self.no_deeds(width, 0)]
            self.refused_each(width, alone + behind + ahead, NoDeed)

    def test_same_goes_by_its_own_values(self):
        # Three values are made by the row of the desk, but none by the row that is asked.
        for width in WIDTHS:
            self.refused_each(width, ["same turn 1 1", "same both 0 3", "same fix 1 / up 2 1"], NoDeed)

    def test_empty_lines_in_same(self):
        for width in WIDTHS:
            lines = ["same /", "same / /", "same / fix 1", "same fix 1 /", "same fix 1 / / turn 1 1", "same / fix 1 /"]
            self.refused_each(width, lines, NoDeed)

    def test_parted_at_the_word_alone(self):
        for width in WIDTHS:
            lines = ["same fix 1/ fix 1", "same fix 1 /fix 1", "same fix 1/fix 1", "same fix 1 // fix 1", "same //"]
            self.refused_each(width, lines, NoDeed)

    def test_words_too_great(self):
        for width in WIDTHS:
            for name in ("press", "spread", "give"):
                lines = [f"{name} {number}" for number in (2 ** width, 2 ** width + 1, 10 ** 19 * 2, 10 ** 20 - 1)]
                self.refused_each(width, lines, NoDeed)
                self.assertIn(desk_of(width).say(f"{name} {every(width)}"), ("ok", str(every(width))))

    def test_twenty_figures(self):
        # Twenty figures are a number: so it is read, and judged by the width.
        number = 10 ** 19
        for name in ("press", "spread", "give"):
            for width in WIDTHS[:-1]:
                self.refused_each(width, [f"{name} {number}"], NoDeed)
            self.assertEqual(desk_of(64).say(f"{name} {number}"), str(number) if name == "give" else "ok")
            self.refused_each(64, [f"{name} {2 * number}", f"{name} {10 * number - 1}"], NoDeed)


class NoOrders(Refusing):
    def test_too_few_and_too_many(self):
        for width in WIDTHS:
            own = IN_ORDER[width]
            lines = [f"order {own},{width}", f"order {own},0", f"order {own},{own}"]
            if width > 1:
                lines += ["order 0", f"order {IN_ORDER[width // 2]}", "order " + own[2:]]
            self.refused_each(width, lines, NoOrder)

    def test_twice(self):
        for width in WIDTHS[1:]:
            lines = ["order " + ",".join(["0"] * width), "order " + ",".join([str(width - 1)] * width)]
            lines.append("order " + IN_ORDER[width][2:] + f",{width - 1}")
            self.refused_each(width, lines, NoOrder)

    def test_too_great(self):
        for width in WIDTHS:
            lines = []
            for great in (width, width + 1, 2 ** 32, 10 ** 20 - 1):
                lines.append("order " + ",".join([str(place) for place in range(width - 1)] + [str(great)]))
                lines.append("order " + ",".join([str(great)] + [str(place) for place in range(1, width)]))
            self.refused_each(width, lines, NoOrder)

    def test_many_places(self):
        self.refused_each(64, ["order " + ",".join(["1"] * 1200), "order " + ",".join(["9" * 20] * 110)], NoOrder)

    def test_orders_of_other_widths(self):
        for width in WIDTHS:
            lines = [f"order {IN_ORDER[other]}" for other in WIDTHS if other != width]
            self.refused_each(width, lines, NoOrder)


class NoWays(Refusing):
    def test_back_where_two_words_have_the_same_answer(self):
        for width in WIDTHS:
            for lost in ("do mask 0 0", "do fix 1", "do up 0 1", "do down 0 1", "do both 0 0", "press 0", "spread 0"):
                for ahead in ((), ("running", "do turn 0 1", "about")):
                    desk, unasked = desk_of(width, ahead + (lost,)), desk_of(width, ahead + (lost,))
                    self.refused(desk, "back", NoWay)
                    self.refused(desk, "back", NoWay)
                    self.alike(width, desk, unasked, int(lost.startswith("do")))

    def test_back_each_way(self):
        for width in WIDTHS:
            desk = desk_of(width)
            self.assertEqual(desk.say("do turn 0 1"), "ok")
            self.assertEqual(desk.say("do up 1 1"), "ok")
            self.refused(desk, "back", NoWay)
            # The row is still there: its values 1 and 2 can be gone by, and then nothing is lost.
            self.assertEqual(desk.say("do both 1 2"), "ok")
            self.assertEqual([desk.say(line) for line in ("lost", "back", "running", "lost")],
                             ["none", "ok", "ok", "none"])


class Earliest(Refusing):
    def test_no_line_ahead_of_no_deed(self):
        for width in WIDTHS:
            lines = ["do fix x ", "do  fix x", "do fix  x", " do x", "same  /", "same / ", "same fix  x", "same / /  /"]
            for name in ("press", "spread", "give"):
                lines += [f"{name} 0{'9' * 19}", f"{name} {'9' * 21}", f"{name} {'9' * 20} 1", f"{name} {'9' * 20} "]
            self.refused_each(width, lines, NoLine)

    def test_no_line_ahead_of_no_order(self):
        for width in WIDTHS:
            lines = ["order 99,99,", "order 99,099", "order 99 99", "order 99 ", " order 99", "order 99,x"]
            lines += ["order 99,-1", f"order 99,{'9' * 21}", f"order {'9' * 21},99"]
            self.refused_each(width, lines, NoLine)

    def test_no_line_ahead_of_no_way(self):
        for width in WIDTHS:
            desk = desk_of(width, ("press 0",))
            for line in ("back ", " back", "back 1", "back back", "Back"):
                self.refused(desk, line, NoLine)
            self.refused(desk, "back", NoWay)

    def test_behind_do_and_same_no_deed_alone(self):
        # Numbers of many figures, with noughts ahead or no numbers at all: no line of a desk, but NoDeed here.
        for width in WIDTHS:
            rest = ("fix 00", "fix " + "9" * 21, "mask 0 " + "0" * 30, "x", "back", "width 3", "order 0,,1", "/ x")
            self.refused_each(width, ["do " + part for part in rest] + ["same " + part for part in rest], NoDeed)


class TakenLater(Refusing):
    def later(self, desk, line, refusal, between, awaited):
        self.refused(desk, line, refusal)
        for step in between:
            self.assertEqual(desk.say(step), "ok")
        self.assertEqual(desk.say(line), awaited, line)

    def test_the_same_line_is_taken_when_it_is_due(self):
        for width in WIDTHS:
            desk = desk_of(width)
            self.later(desk, "do both 1 0", NoDeed, ["do turn 0 1"], "ok")
            self.assertEqual(desk.say("same fix 1"), "yes")
            self.later(desk, "back", NoWay, ["do both 2 0"], "ok")
            self.assertEqual(desk.say("same turn 0 1"), "yes")
            self.later(desk, "do turn 1 1", NoDeed, ["do turn 0 0"], "ok")
            self.assertEqual(desk.say("same"), "yes")

    def test_taken_in_another_width(self):
        for small, great in zip(WIDTHS, WIDTHS[1:]):
            change = [f"width {great}"]
            number = 2 ** small
            self.later(desk_of(small), f"give {number}", NoDeed, change, str(number))
            self.later(desk_of(small), f"press {number}", NoDeed, change, "ok")
            self.later(desk_of(small), f"spread {number}", NoDeed, change, "ok")
            self.later(desk_of(small), f"do fix {number}", NoDeed, change, "ok")
            self.later(desk_of(small), f"do up 0 {great}", NoDeed, change, "ok")
            self.later(desk_of(small), f"same turn 0 {number}", NoDeed, change, "0")
            self.later(desk_of(small), f"order {IN_ORDER[great]}", NoOrder, change, "ok")
            self.later(desk_of(great), f"order {IN_ORDER[small]}", NoOrder, [f"width {small}"], "ok")
            self.later(desk_of(small, ["press 0"]), "back", NoWay, change, "ok")

    def test_a_refused_width_stays_away(self):
        for width in WIDTHS:
            desk = desk_of(width, LINES_AHEAD)
            for line in ("width 3", "width 0", "width 08", "width 8 ", "width", "width 16 16"):
                self.refused(desk, line, NoLine)
            self.refused(desk, f"give {2 ** width}", NoDeed)
            self.assertEqual(desk.say("same"), "0")


if __name__ == "__main__":
    unittest.main()
