"""The desk: rows of words are said to it, and it answers each with a text."""

from oneglance.alone import alone
from oneglance.errors import NoRow, NoText
from oneglance.rows import in_row
from oneglance.texts import number_in, read_dealing
from oneglance.tries import Tries
from oneglance.waits import all_done, stuck
from oneglance.worlds import is_state, is_world

MOST_DEALINGS = 12
MOST_IN_ROW = 12
MOST_TRIED = 5
MOST_ASKED = 6
MOST_PATIENCE = 20


class Desk:
    def __init__(self):
        self.world = None
        self.state = None
        self.dealings = []
        self.tries = None

    def say(self, row):
        words = row.split(" ")
        if words[0] == "world":
            return self.say_world(words[1:])
        check(self.world is not None, "there is no world yet")
        if words[0] == "deal":
            return self.say_deal(words[1:])
        if words[0] == "alone":
            return self.say_alone(words[1:])
        if words[0] == "row":
            return self.say_row(words[1:])
        if words[0] == "try":
            return self.say_try(words[1:])
        if words[0] == "go":
            return self.say_go(words[1:])
        check(len(words) == 1, "no row has these words")
        return self.say_word(words[0])

    def say_word(self, word):
        if word == "now":
            return spaced(self.tried().now())
        if word == "order":
            return spaced(self.tried().order())
        if word == "all":
            told = all_done(self.world, self.state, self.some_dealings(MOST_ASKED))
            return spaced(told[1]) if told[0] == "all" else "never"
        check(word == "stuck", "no row has this word")
        told = stuck(self.world, self.state, self.some_dealings(MOST_ASKED))
        return spaced(told[1]) if told[0] == "stuck" else "free"

    def say_world(self, words):
        numbers = [numbered(word) for word in words]
        world = tuple(numbers[:2])
        state = tuple(numbers[2:])
        check(is_world(world) and is_state(world, state), "this is no world and state")
        self.world = world
        self.state = state
        self.dealings = []
        self.tries = None
        return "ok"

    def say_deal(self, words):
        check(len(words) > 0 and len(self.dealings) < MOST_DEALINGS, "no words, or too many dealings")
        self.dealings.append(self.read_deal(words))
        self.tries = None
        return str(len(self.dealings) - 1)

    def read_deal(self, words):
        try:
            return read_dealing(self.world, " ".join(words))
        except NoText as e:
            # In the row one word stands ahead of the dealing's own.
            raise NoText(e.at + 1) from None

    def say_alone(self, words):
        check(len(words) == 1, "one dealing is asked")
        told = alone(self.world, self.dealings[self.place_of(words[0])], self.state)
        return told[0] + " " + spaced(told[1])

    def say_row(self, words):
        check(0 < len(words) <= MOST_IN_ROW, "one to twelve dealings are asked")
        told = in_row(self.world, self.dealings, self.state, [self.place_of(word) for word in words])
        if told[0] == "waits":
            return "waits " + str(told[1])
        return "done " + spaced(told[1])

    def say_try(self, words):
        check(len(words) == 1, "one patience is asked")
        patience = None
        if words[0] != "-":
            patience = numbered(words[0])
            check(patience <= MOST_PATIENCE, "this is too great a patience")
        self.tries = Tries(self.world, self.state, self.some_dealings(MOST_TRIED), patience)
        return "ok"

    def say_go(self, words):
        check(len(words) == 1, "one dealing is asked")
        return self.tried().go(self.place_of(words[0]))

    def tried(self):
        check(self.tries is not None, "nothing is tried")
        return self.tries

    def some_dealings(self, most):
        check(0 < len(self.dealings) <= most, "no dealings, or too many")
        return self.dealings

    def place_of(self, word):
        number = numbered(word)
        check(number < len(self.dealings), "there is no such dealing")
        return number


def check(fits, words):
    if not fits:
        raise NoRow(words)


def numbered(word):
    number = number_in(word)
    check(number is not None, "this is no number")
    return number


def spaced(numbers):
    if len(numbers) == 0:
        return "-"
    return " ".join([str(number) for number in numbers])
