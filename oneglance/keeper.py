"""The keeper: it lets each attempt look as if all boxes had stood still for one moment."""

from oneglance.errors import NoAttempt, NoStep


class Attempt:
    def __init__(self, glance):
        self.glance = glance
        self.looked = {}
        self.puts = {}
        self.stamp = None
        self.unwritten = []
        self.is_open = True

    def instant(self):
        if self.stamp is None:
            return (self.glance, 1)
        # All who have this clock as their glance began, or looked anew, behind this taking.
        return (self.stamp, 0)


class Keeper:
    def __init__(self, world, state):
        self.boxes = list(state)
        self.marks = [0] * len(state)
        self.holders = {}
        self.ticks = 0
        self.events = []
        # In the order in which they began.
        self.known = {}

    def begin(self, a):
        if a in self.known:
            raise NoAttempt(f"attempt {a} began already")
        self.known[a] = Attempt(self.ticks)
        self.events.append(("begin", a))

    def look(self, a, b):
        attempt = self.untaken(a)
        if b in attempt.puts:
            number = attempt.puts[b]
        elif self.would_fall(a, b):
            self.end(a, "fall")
            return ("falls",)
        else:
            number = self.look_anew(attempt, b)
        self.events.append(("look", a, b, number))
        return ("number", number)

    def would_fall(self, a, b):
        if self.is_barred(a, [b]):
            return True
        if self.marks[b] <= self.known[a].glance:
            return False
        return self.is_barred(a, self.known[a].looked) or self.has_changed(a)

    def look_anew(self, attempt, b):
        if self.marks[b] > attempt.glance:
            # All that it looked into is still so, so it may as well have looked just now.
            attempt.glance = self.ticks
        attempt.looked[b] = True
        return self.boxes[b]

    def put(self, a, b, v):
        attempt = self.untaken(a)
        attempt.puts[b] = v
        self.events.append(("put", a, b, v))

    def take(self, a):
        attempt = self.untaken(a)
        if len(attempt.puts) == 0:
            self.end(a, "done")
            return "done"
        if self.is_barred(a, attempt.looked) or self.is_barred(a, attempt.puts) or self.has_changed(a):
            self.end(a, "fall")
            return "falls"
        self.ticks = self.ticks + 1
        attempt.stamp = self.ticks
        attempt.unwritten = sorted(attempt.puts)
        for b in attempt.unwritten:
            self.holders[b] = a
        return "taken"

    def write(self, a):
        attempt = self.found(a)
        if attempt.stamp is None:
            raise NoStep(f"attempt {a} has not taken")
        b = attempt.unwritten.pop(0)
        self.boxes[b] = attempt.puts[b]
        self.marks[b] = attempt.stamp
        if len(attempt.unwritten) > 0:
            return "written"
        for held in attempt.puts:
            self.holders.pop(held)
        self.end(a, "done")
        return "done"

    def fall(self, a):
        self.untaken(a)
        self.end(a, "fall")

    def found(self, a):
        if a not in self.known or not self.known[a].is_open:
            raise NoAttempt(f"attempt {a} is not under way")
        return self.known[a]

    def untaken(self, a):
        attempt = self.found(a)
        if attempt.stamp is not None:
            raise NoStep(f"attempt {a} has taken")
        return attempt

    def end(self, a, word):
        attempt = self.known[a]
        attempt.is_open = False
        self.events.append((word, a))

    def is_barred(self, a, boxes):
        return any([self.holders.get(b, a) != a for b in boxes])

    def has_changed(self, a):
        attempt = self.known[a]
        return any([self.marks[b] > attempt.glance for b in attempt.looked])

    def looked_into(self, a):
        return sorted(self.known[a].looked)

    def log(self):
        return list(self.events)

    def order(self):
        # Sorting keeps those of one instant as they began.
        return sorted(self.known, key=lambda a: self.known[a].instant())

    def now(self):
        return tuple(self.boxes)

    def clock(self):
        return self.ticks

    def mark(self, b):
        return self.marks[b]
