"""Point 16: a desk, its lines and its answers."""

import random
import unittest

from bitferry.deeds import behind
from bitferry.desk import Desk
from bitferry.exchanges import exchanges_of, rows_by
from bitferry.moves import about_rows, running_rows
from bitferry.pressing import press_rows, spread_rows
from bitferry.tables import rows_of
from bitferry.text import shown
from helper import (NAMES, WIDTHS, bits, every, model_about, model_pressed, model_running, model_spread, model_values,
                    random_deed, random_row, random_table, sample_words, settling_words, sum_of, word_of)


def desk_of(width):
    desk = Desk()
    desk.say(f"width {width}")
    return desk


def said(desk, lines):
    return [desk.say(line) for line in lines]


def places_text(order):
    return ",".join(str(place) for place in order)


def same_line(rows):
    return " ".join(["same", " / ".join(shown(rows))]) if rows else "same"


class Model:
    """A desk by point 16, which keeps all that was done as steps, each a function from word to word."""

    def __init__(self, width):
        self.width, self.steps, self.rows = width, [], []

    def answer(self, word):
        for step in self.steps:
            word = step(word)
        return model_values(self.width, self.rows, word)[-1]

    def follow(self, step):
        rows, width = self.rows, self.width
        self.steps = self.steps + [lambda word: model_values(width, rows, word)[-1], step]
        self.rows = []

    def order(self, order):
        self.follow(lambda word: word_of([bits(self.width, word)[place] for place in order]))

    def ways_back(self):
        """For each answer bit alone the word that changes it alone, or None where two words have the same answer."""
        start = self.answer(0)
        left = [(sum_of(self.width, self.answer(2 ** k), start), 2 ** k) for k in range(self.width)]
        for place in range(self.width):
            leads = [pair for pair in left[place:] if bits(self.width, pair[0])[place] == 1]
            if not leads:
                return None
            lead = leads[0]
            left.remove(lead)
            left = [(a ^ lead[0], b ^ lead[1]) if a // 2 ** place % 2 == 1 else (a, b) for a, b in left]
            left.insert(place, lead)
        return left

    def back(self):
        start, ways = self.answer(0), self.ways_back()
        self.steps, self.rows = [lambda word: self.through(ways, sum_of(self.width, word, start))], []

    def through(self, ways, word):
        total = 0
        for place, (made, source) in enumerate(ways):
            if word // 2 ** place % 2 == 1:
                total = sum_of(self.width, total, source)
        return total


class FirstAnswers(unittest.TestCase):
    def test_width_eight_and_nothing_done(self):
        desk = Desk()
        self.assertEqual(said(desk, ["give 0", "give 200", "give 255"]), ["0", "200", "255"])
        self.assertEqual(said(desk, ["same", "lost"]), ["yes", "none"])
        self.assertEqual(said(desk, ["do up 0 8", "give 255", "width 16", "give 65535"]), ["ok", "0", "ok", "65535"])

    def test_by_hand(self):
        desk = Desk()
        self.assertEqual(said(desk, ["do up 0 1", "do both 0 1", "give 5", "same up 0 1 / both 1 0", "same"]),
                         ["ok", "ok", "15", "yes", "1"])
        self.assertEqual(said(desk, ["running", "same", "about", "give 1", "press 240", "give 1", "lost"]),
                         ["ok", "yes", "ok", "128", "ok", "8", "yes"])
        self.assertEqual(said(desk, ["spread 240", "give 1", "width 4", "order 3,0,1,2", "give 9", "back", "give 3"]),
                         ["ok", "128", "ok", "ok", "3", "ok", "9"])

    def test_answers_are_texts(self):
        desk = Desk()
        lines = ["width 8", "do turn 0 3", "order 7,6,5,4,3,2,1,0", "press 255", "spread 255", "about", "running"]
        for line in lines + ["back", "give 3", "same", "same fix 3", "lost"]:
            self.assertIs(type(desk.say(line)), str, line)


class EachLine(unittest.TestCase):
    def gives(self, desk, width, model, what=None):
        for word in settling_words(width):
            self.assertEqual(desk.say(f"give {word}"), str(model(word)), (width, word, what))

    def test_width(self):
        for width in WIDTHS:
            desk = Desk()
            for other in WIDTHS:
                # Whatever was done, and the row, are gone: for the same width too.
                said(desk, ["do turn 0 1", "running", "do fix 1", f"width {other}", f"width {width}"])
                self.gives(desk, width, lambda word: word)
                self.assertEqual(said(desk, ["same", "lost"]), ["yes", "none"])
                self.assertEqual(said(desk, ["do turn 0 1", "about", "do turn 0 0", f"width {width}", "same"])[-2:],
                                 ["ok", "yes"])

    def test_do_each_deed(self):
        for width in WIDTHS:
            for name in NAMES:
                for seed in range(4):
                    deed = random_deed(random.Random(f"do {seed}"), width, 0, name)
                    desk = desk_of(width)
                    self.assertEqual(desk.say("do " + shown([deed])[0]), "ok")
                    self.gives(desk, width, lambda word: model_values(width, [deed], word)[-1], deed)

    def test_do_rows(self):
        for width in WIDTHS:
            row = random_row("desk", width, 14)
            desk = desk_of(width)
            for size, line in enumerate(shown(row)):
                self.gives(desk, width, lambda word: model_values(width, row[:size], word)[-1])
                self.assertEqual(desk.say("do " + line), "ok")
                self.assertEqual(desk.say(same_line(row[:size + 1])), "yes")

    def test_order(self):
        for width in WIDTHS:
            own = list(range(width))
            chance = random.Random(f"order {width}")
            for order in [own, own[::-1], own[1:] + own[:1]] + [chance.sample(own, width) for step in range(3)]:
                desk = desk_of(width)
                self.assertEqual(desk.say("order " + places_text(order)), "ok")
                self.gives(desk, width, lambda word: word_of([bits(width, word)[place] for place in order]), order)
                self.assertEqual(desk.say("lost"), "none")

    def test_press_and_spread(self):
        for width in WIDTHS:
            for mask in sample_words(width):
                for name, model in (("press", model_pressed), ("spread", model_spread)):
                    desk = desk_of(width)
                    self.assertEqual(desk.say(f"{name} {mask}"), "ok")
                    self.gives(desk, width, lambda word: model(width, word, mask), (name, mask))
                    self.assertEqual(desk.say("lost"), "none" if mask == every(width) else "yes")

    def test_about_and_running(self):
        for width in WIDTHS:
            for name, model in (("about", model_about), ("running", model_running)):
                desk = desk_of(width)
                self.assertEqual(desk.say(name), "ok")
                self.gives(desk, width, lambda word: model(width, word), name)

    def test_back(self):
        for width in WIDTHS:
            desk = desk_of(width)
            self.assertEqual(said(desk, ["back", "same"]), ["ok", "yes"])
            said(desk, ["running", "do turn 0 1"])
            table = {word: int(desk.say(f"give {word}")) for word in settling_words(width)}
            self.assertEqual(desk.say("back"), "ok")
            for word in table:
                self.assertEqual(desk.say(f"give {table[word]}"), str(word))
            self.assertEqual(desk.say("back"), "ok")
            self.gives(desk, width, lambda word: table[word])

    def test_back_undoes_the_row_and_what_was_done(self):
        for width in WIDTHS:
            order = random.Random(f"back {width}").sample(range(width), width)
            lines = ["running", "do turn 0 1", "order " + places_text(order), "about", "do up 0 1", "do both 1 0"]
            desk = desk_of(width)
            said(desk, lines)
            answers = {word: desk.say(f"give {word}") for word in settling_words(width)}
            self.assertEqual(desk.say("back"), "ok")
            for word in answers:
                self.assertEqual(desk.say(f"give {answers[word]}"), str(word), (width, word))
            # Behind itself turned back, the whole is as if nothing was done.
            said(desk, lines)
            self.assertEqual(desk.say("same"), "yes")

    def test_do_goes_by_values_since_the_row_was_emptied(self):
        for width in WIDTHS:
            order = "order " + places_text(range(width))
            for line in (order, f"press {every(width)}", f"spread {every(width)}", "about", "running", "back"):
                desk = desk_of(width)
                said(desk, ["do turn 0 1", "do up 1 0", line])
                before = {word: int(desk.say(f"give {word}")) for word in settling_words(width)}
                # Value 0 is now the answer of what was done so far, and no value 1 is made yet.
                self.assertEqual(said(desk, ["do mask 0 1", "do both 0 1"]), ["ok", "ok"])
                self.gives(desk, width, lambda word: before[word] - before[word] % 2, line)

    def test_questions_leave_the_row(self):
        for width in WIDTHS:
            desk = desk_of(width)
            asked = ["give 1", "same", "same fix 1 / turn 1 1", "lost"]
            said(desk, ["do turn 0 1"] + asked + ["do turn 1 1"] + asked + ["do both 1 2"] + asked)
            self.gives(desk, width, lambda word: 1)
            self.assertEqual(said(desk, ["do both 2 0", "lost", "same fix 0"]), ["ok", "yes", "yes"])

    def test_give_a_word_of_twenty_figures(self):
        desk = desk_of(64)
        self.assertEqual(desk.say("give 18446744073709551615"), "18446744073709551615")
        self.assertEqual(said(desk, ["do turn 0 18446744073709551615", "give 0"]), ["ok", "18446744073709551615"])
        self.assertEqual(said(desk, ["press 18446744073709551614", "give 0"]), ["ok", "9223372036854775807"])


class Same(unittest.TestCase):
    def test_no_line(self):
        for width in WIDTHS:
            desk = desk_of(width)
            self.assertEqual(said(desk, ["same", "do turn 0 1", "same", "do turn 1 1", "same"]),
                             ["yes", "ok", "0", "ok", "yes"])

    def test_one_line_and_several(self):
        for width in WIDTHS:
            desk = desk_of(width)
            self.assertEqual(said(desk, ["same mask 0 0", "same turn 0 0", "same turn 0 1 / turn 1 1"]),
                             ["1", "yes", "yes"])
            said(desk, ["do up 0 1", "do turn 1 1"])
            self.assertEqual(said(desk, ["same turn 0 0 / up 1 1 / fix 1 / both 2 3", "same up 0 1"]), ["yes", "0"])
            self.assertEqual(desk.say("same up 0 1 / turn 1 1 / fix 0 / up 0 1 / turn 4 1"), "yes")

    def test_least_word(self):
        for width in WIDTHS:
            for place in range(width):
                desk = desk_of(width)
                desk.say(f"do mask 0 {every(width) - 2 ** place}")
                self.assertEqual(desk.say("same"), str(2 ** place))
                self.assertEqual(desk.say(f"same turn 0 {2 ** place}"), "0")
                desk.say("running")
                row = [("mask", 0, every(width) - 2 ** place)]
                self.assertEqual(desk.say(same_line(behind(row, running_rows(width)))), "yes")
                self.assertEqual(desk.say(same_line(running_rows(width))), str(2 ** place))

    def test_least_of_all_words(self):
        for width in (1, 2, 4, 8):
            for seed in range(20):
                row, other = random_row(f"least {seed}", width, seed % 6), random_row(f"other {seed}", width, seed % 5)
                desk = desk_of(width)
                said(desk, ["do " + line for line in shown(row)])
                unlike = [word for word in range(2 ** width)
                          if model_values(width, row, word)[-1] != model_values(width, other, word)[-1]]
                self.assertEqual(desk.say(same_line(other)), str(unlike[0]) if unlike else "yes")

    def test_the_program_s_own_rows(self):
        for width in WIDTHS[:5]:
            mask = sample_words(width)[-2]
            order = random.Random(f"own {width}").sample(range(width), width)
            for line, row in (("about", about_rows(width)), ("running", running_rows(width)),
                              (f"press {mask}", press_rows(width, mask)), (f"spread {mask}", spread_rows(width, mask)),
                              ("order " + places_text(order), rows_by(exchanges_of(width, order)))):
                desk = desk_of(width)
                asked = same_line(row)
                self.assertEqual(said(desk, [line, asked])[1], "yes", line)

    def test_any_table(self):
        for width in WIDTHS[:5]:
            row = rows_of(width, random_table("desk", width))
            desk = desk_of(width)
            said(desk, ["do " + line for line in shown(row)])
            self.assertEqual(desk.say(same_line(row)), "yes")


class Lost(unittest.TestCase):
    def test_none_and_yes(self):
        for width in WIDTHS:
            press = f"press {every(width) - 1}"
            for line in ("do fix 0", "do mask 0 0", "do up 0 1", "do both 0 0", press, "spread 0"):
                desk = desk_of(width)
                self.assertEqual(said(desk, ["lost", line, "lost"]), ["none", "ok", "yes"])
                # What was lost when the row was emptied stays lost, whatever follows.
                self.assertEqual(said(desk, ["about", "do turn 0 1", "running", "lost"])[-1], "yes")

    def test_lost_in_the_row_alone_and_fetched_again(self):
        desk = Desk()
        self.assertEqual(said(desk, ["running", "do up 0 4", "lost", "do both 0 1", "lost"]),
                         ["ok", "ok", "yes", "ok", "none"])

    def test_lost_in_what_was_done_alone(self):
        desk = Desk()
        self.assertEqual(said(desk, ["press 127", "lost", "do turn 0 1", "lost"]), ["ok", "yes", "ok", "yes"])


class Together(unittest.TestCase):
    def random_line(self, chance, model):
        """A line by chance that is not refused, done with the model too; and what the desk should answer."""
        width = model.width
        name = chance.choice("do do do do order press spread about running back give same lost".split())
        if name == "do":
            deed = random_deed(chance, width, len(model.rows), chance.choice(NAMES[1:]))
            model.rows = model.rows + [deed]
            return "do " + shown([deed])[0], "ok"
        if name == "order":
            order = chance.sample(range(width), width)
            model.order(order)
            return "order " + places_text(order), "ok"
        if name in ("press", "spread"):
            mask = chance.choice((every(width), every(width), chance.randrange(2 ** width)))
            step = model_pressed if name == "press" else model_spread
            model.follow(lambda word: step(width, word, mask))
            return f"{name} {mask}", "ok"
        if name in ("about", "running"):
            step = model_about if name == "about" else model_running
            model.follow(lambda word: step(width, word))
            return name, "ok"
        if name == "give" or name == "back" and model.ways_back() is None:
            word = chance.randrange(2 ** width)
            return f"give {word}", str(model.answer(word))
        if name == "back":
            model.back()
            return name, "ok"
        if name == "lost":
            return name, "yes" if model.ways_back() is None else "none"
        unlike = [word for word in [0] + [2 ** k for k in range(width)] if model.answer(word) != word]
        return name, str(unlike[0]) if unlike else "yes"

    def test_lines_by_chance(self):
        for width in WIDTHS:
            for seed in range(6):
                chance = random.Random(f"lines {width} {seed}")
                desk, model, lines = desk_of(width), Model(width), []
                for step in range(16):
                    line, awaited = self.random_line(chance, model)
                    lines.append(line)
                    self.assertEqual(desk.say(line), awaited, (width, lines))
                for word in sample_words(width):
                    self.assertEqual(desk.say(f"give {word}"), str(model.answer(word)), (width, lines, word))

    def test_two_desks_beside_each_other(self):
        one, other = Desk(), Desk()
        self.assertEqual(said(one, ["width 4", "do turn 0 5", "give 0"]), ["ok", "ok", "5"])
        self.assertEqual(said(other, ["give 200", "same", "do up 0 1", "running", "give 1"]),
                         ["200", "yes", "ok", "ok", "254"])
        self.assertEqual(said(one, ["do turn 1 5", "same", "about", "give 1"]), ["ok", "yes", "ok", "8"])
        self.assertEqual(said(other, ["do turn 0 1", "give 1", "lost"]), ["ok", "255", "yes"])
        self.assertEqual(said(Desk(), ["give 200", "same", "lost"]), ["200", "yes", "none"])
        self.assertEqual(said(one, ["give 1", "lost", "back", "give 8"]), ["8", "none", "ok", "1"])

    def test_lines_of_two_desks_in_turn(self):
        lines = ["do turn 0 1", "running", "do up 0 1", "do both 1 0", "about", "give 1", "same", "lost", "give 0"]
        others = ["do fix 1", "about", "do turn 0 1", "press 1", "do up 0 1", "do both 0 1", "lost", "same", "give 1"]
        for width in WIDTHS:
            alone = (said(desk_of(width), lines), said(desk_of(width), others))
            one, other = desk_of(width), desk_of(width)
            beside = [(one.say(line), other.say(second)) for line, second in zip(lines, others)]
            self.assertEqual([list(some) for some in zip(*beside)], list(alone))

    def test_five_hundred_lines(self):
        desk = desk_of(64)
        for number in range(498):
            self.assertEqual(desk.say(f"do turn {number} {number + 1}"), "ok")
        total = 0
        for number in range(498):
            total ^= number + 1
        self.assertEqual(desk.say("give 0"), str(total))
        self.assertEqual(desk.say(f"same turn 0 {total}"), "yes")


if __name__ == "__main__":
    unittest.main()
