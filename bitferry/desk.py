"""A desk that is told lines, keeps what was done, and answers."""

from bitferry.deeds import answer
from bitferry.lines import asked_of, order_for, word_for
from bitferry.moves import about_rows, move_table, running_rows
from bitferry.pressing import press_rows, spread_rows
from bitferry.tables import joined, table_of, told, unlike
from bitferry.text import deed_of, read
from bitferry.turned import like_words, turned_back

FIRST_WIDTH = 8


class Desk:
    def __init__(self):
        self.width = FIRST_WIDTH
        self.done = table_of(FIRST_WIDTH, [])
        self.row = []

    # Whatever can be refused is worked out ahead of the first change: so a refused line changes nothing.
    def say(self, line):
        asked = asked_of(line)
        name = asked[0]
        what = asked[1]
        if name == "give":
            return self.given(word_for(self.width, what))
        if name == "same":
            return self.compared(read(self.width, what))
        if name == "lost":
            return self.losing()
        if name == "width":
            self.begin(what)
        elif name == "do":
            self.row = self.row + [deed_of(self.width, what, len(self.row))]
        elif name == "back":
            self.settle(turned_back(self.width, self.whole()))
        else:
            self.settle(joined(self.whole(), step_of(self.width, name, what)))
        return "ok"

    def given(self, word):
        return str(answer(self.width, self.row, told(self.done, word)))

    def compared(self, rows):
        word = unlike(table_of(self.width, rows), self.whole())
        if word is None:
            return "yes"
        return str(word)

    def losing(self):
        if like_words(self.width, self.whole()) is None:
            return "none"
        return "yes"

    def begin(self, width):
        self.width = width
        self.settle(table_of(width, []))

    def settle(self, table):
        self.done = table
        self.row = []

    def whole(self):
        return joined(self.done, table_of(self.width, self.row))


def step_of(width, name, what):
    if name == "order":
        return move_table(width, order_for(width, what))
    if name == "press":
        return table_of(width, press_rows(width, word_for(width, what)))
    if name == "spread":
        return table_of(width, spread_rows(width, word_for(width, what)))
    if name == "about":
        return table_of(width, about_rows(width))
    return table_of(width, running_rows(width))
