"""Dealings written by words, and read again."""

from oneglance.dealings import MOST_IN_ALL, MOST_IN_TUPLE, MOST_TRIES, bounds_of
from oneglance.errors import NoText

MOST_FIGURES = 4
FIGURES = "0123456789"


class Reader:
    def __init__(self, world, words):
        self.world = world
        self.words = words
        self.place = 0
        self.many = 0

    def word(self):
        if self.place < len(self.words):
            return self.words[self.place]
        # A word without signs fits nowhere, no more than the end does.
        return ""

    def check(self, fits):
        # What was begun can always be brought to an end without a further deed, so each word that fits here leads on.
        if not fits:
            raise NoText(self.place)

    def go_on(self):
        self.place = self.place + 1

    def read_all(self):
        dealing = self.read_run(MOST_TRIES)
        self.check(self.place == len(self.words))
        return dealing

    def read_run(self, tries_left):
        self.check(self.word() == "(")
        self.go_on()
        deeds = []
        while self.word() != ")":
            self.check(len(deeds) < MOST_IN_TUPLE and self.many < MOST_IN_ALL)
            self.many = self.many + 1
            deeds.append(self.read_deed(tries_left))
        self.go_on()
        return tuple(deeds)

    def read_deed(self, tries_left):
        word = self.word()
        if word == "try":
            return self.read_try(tries_left)
        bounds = bounds_of(self.world, word)
        self.check(bounds is not None)
        self.go_on()
        deed = [word]
        for bound in bounds:
            deed.append(self.read_number(bound))
        return tuple(deed)

    def read_try(self, tries_left):
        self.check(tries_left > 0)
        self.go_on()
        one = self.read_run(tries_left - 1)
        other = self.read_run(tries_left - 1)
        return ("try", one, other)

    def read_number(self, bound):
        number = number_in(self.word())
        self.check(number is not None and bound[0] <= number <= bound[1])
        self.go_on()
        return number


def number_in(word):
    # No number that is asked for anywhere has more figures, so no longer word is ever counted out.
    if len(word) == 0 or len(word) > MOST_FIGURES or not all([sign in FIGURES for sign in word]):
        return None
    if word[0] == "0" and word != "0":
        return None
    return int(word)


def read_dealing(world, text):
    return Reader(world, text.split(" ")).read_all()


def dealing_text(dealing):
    return " ".join(words_of(dealing))


def words_of(dealing):
    words = ["("]
    for deed in dealing:
        words.append(deed[0])
        for part in deed[1:]:
            if deed[0] == "try":
                words.extend(words_of(part))
            else:
                words.append(str(part))
    words.append(")")
    return words
