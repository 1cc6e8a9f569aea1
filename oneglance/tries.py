"""Dealings tried again under a keeper until they are done, with and without a patience."""

from oneglance.alone import Doing
from oneglance.keeper import Keeper


class Trying:
    def __init__(self, dealing):
        self.dealing = dealing
        self.attempt = None
        self.doing = None
        # "out", "in", "taken", "asleep" or "done": its attempt is under way where it is in or has taken.
        self.stage = "out"
        self.fallen = 0
        self.fallen_lately = 0


class Tries:
    def __init__(self, world, state, dealings, patience=None):
        self.world = world
        self.keeper = Keeper(world, state)
        self.patience = patience
        self.ones = [Trying(dealing) for dealing in dealings]
        self.begun = 0
        # The numbers of those whose patience is at an end.
        self.row = []

    def go(self, i):
        one = self.ones[i]
        if one.stage == "done":
            return "idle"
        if self.sleeps(one):
            return "asleep"
        if self.patience == 0 and i not in self.row:
            self.row.append(i)
        if i in self.row and not self.is_first(i):
            return "held"
        if one.stage == "in":
            return self.go_on(i)
        if one.stage == "taken":
            return self.go_writing(i)
        return self.go_in(one)

    def go_in(self, one):
        one.attempt = self.begun
        one.doing = Doing(self.world, one.dealing)
        one.stage = "in"
        self.begun = self.begun + 1
        self.keeper.begin(one.attempt)
        return "begun"

    def go_on(self, i):
        doing = self.ones[i].doing
        if doing.deed() is None:
            return self.go_taking(i)
        if doing.asks():
            return self.go_looking(i)
        if not doing.do_deed():
            return self.go_asleep(i)
        return "went"

    def go_looking(self, i):
        one = self.ones[i]
        box = one.doing.deed()[2]
        # Nobody takes while the first is under way, so no mark is above its glance: held boxes alone make it fall.
        if self.is_first(i) and self.keeper.is_barred(one.attempt, [box]):
            return "held"
        told = self.keeper.look(one.attempt, box)
        if told[0] == "falls":
            return self.go_falling(i)
        one.doing.hear(told[1])
        return "went"

    def go_taking(self, i):
        one = self.ones[i]
        pairs = one.doing.put_pairs()
        if len(pairs) > 0 and self.may_not_take(i, [pair[0] for pair in pairs]):
            return "held"
        for box, number in pairs:
            self.keeper.put(one.attempt, box, number)
        word = self.keeper.take(one.attempt)
        if word == "falls":
            return self.go_falling(i)
        if word == "done":
            return self.go_done(i)
        one.stage = "taken"
        return "took"

    def may_not_take(self, i, boxes):
        if self.is_first(i):
            attempt = self.ones[i].attempt
            return self.keeper.is_barred(attempt, self.keeper.looked_into(attempt) + boxes)
        return len(self.row) > 0 and self.ones[self.row[0]].stage in ("in", "taken")

    def go_writing(self, i):
        if self.keeper.write(self.ones[i].attempt) == "done":
            return self.go_done(i)
        return "wrote"

    def go_falling(self, i):
        one = self.ones[i]
        one.stage = "out"
        one.fallen = one.fallen + 1
        one.fallen_lately = one.fallen_lately + 1
        if one.fallen_lately == self.patience:
            self.row.append(i)
        return "fell"

    def go_asleep(self, i):
        one = self.ones[i]
        self.keeper.fall(one.attempt)
        one.stage = "asleep"
        one.fallen_lately = 0
        self.leave_row(i)
        return "slept"

    def go_done(self, i):
        one = self.ones[i]
        one.stage = "done"
        self.leave_row(i)
        return "done"

    def leave_row(self, i):
        self.row = [j for j in self.row if j != i]

    def is_first(self, i):
        return self.row[:1] == [i]

    def sleeps(self, one):
        return one.stage == "asleep" and not self.keeper.has_changed(one.attempt)

    def log(self):
        return self.keeper.log()

    def order(self):
        done = {}
        for i, one in enumerate(self.ones):
            if one.stage == "done":
                done[one.attempt] = i
        return [done[a] for a in self.keeper.order() if a in done]

    def now(self):
        return self.keeper.now()

    def falls(self, i):
        return self.ones[i].fallen

    def hands(self, i):
        one = self.ones[i]
        if one.stage == "done":
            return one.doing.held
        return None

    def rests(self):
        return all([one.stage == "done" or self.sleeps(one) for one in self.ones])
