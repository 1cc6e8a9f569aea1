"""A second telling of the keeper and of tries, straight from what is said of them, to set beside the program's.

The keeper keeps one list of what happened, and finds all in it anew each time; a dealing is a generator.
"""


class Refused(Exception):
    pass


class Keeper:
    def __init__(self, world, state):
        self.state = state
        self.facts = []
        self.events = []

    def fact(self, *parts):
        self.facts.append(parts)

    def found(self, word, *parts):
        return [fact for fact in self.facts if fact[0] == word and fact[1:1 + len(parts)] == parts]

    def clock(self):
        return len(self.found("took"))

    def number(self, b):
        return ([self.state[b]] + [fact[3] for fact in self.facts if fact[0] == "wrote" and fact[2] == b])[-1]

    def now(self):
        return tuple(self.number(b) for b in range(len(self.state)))

    def mark(self, b):
        return ([0] + [fact[4] for fact in self.facts if fact[0] == "wrote" and fact[2] == b])[-1]

    def glance(self, a):
        return self.found("glance", a)[-1][2]

    def is_open(self, a):
        return bool(self.found("began", a)) and not self.found("ended", a)

    def aside(self, a):
        return {fact[2]: fact[3] for fact in self.found("aside", a)}

    def looked(self, a):
        return sorted({fact[2] for fact in self.found("saw", a)})

    def holds_for(self, b):
        return [fact[1] for fact in self.found("took") if self.is_open(fact[1]) and b in self.aside(fact[1])]

    def held_by_another(self, a, boxes):
        return any(other != a for b in boxes for other in self.holds_for(b))

    def changed(self, a):
        return any(self.mark(b) > self.glance(a) for b in self.looked(a))

    def refuse(self, word, a):
        if word == "begin":
            if self.found("began", a):
                raise Refused("NoAttempt")
            return
        if not self.is_open(a):
            raise Refused("NoAttempt")
        if (word == "write") != bool(self.found("took", a)):
            raise Refused("NoStep")

    def begin(self, a):
        self.refuse("begin", a)
        self.fact("began", a)
        self.fact("glance", a, self.clock())
        self.events.append(("begin", a))

    def ends(self, a, word):
        self.fact("ended", a, word)
        self.events.append((word, a))

    def why_falls(self, a, b):
        """Why a look falls: by a held box, by a mark, by both, or not at all."""
        if self.held_by_another(a, [b]):
            return "held"
        if self.mark(b) > self.glance(a):
            if self.changed(a):
                return "mark"
            if self.held_by_another(a, self.looked(a)):
                return "held"
        return None

    def look(self, a, b):
        self.refuse("look", a)
        if b in self.aside(a):
            number = self.aside(a)[b]
        else:
            if self.why_falls(a, b):
                self.ends(a, "fall")
                return ("falls",)
            if self.mark(b) > self.glance(a):
                self.fact("glance", a, self.clock())
            self.fact("saw", a, b)
            number = self.number(b)
        self.events.append(("look", a, b, number))
        return ("number", number)

    def put(self, a, b, v):
        self.refuse("put", a)
        self.fact("aside", a, b, v)
        self.events.append(("put", a, b, v))

    def why_take_falls(self, a, boxes):
        if boxes and self.changed(a):
            return "mark"
        if boxes and self.held_by_another(a, self.looked(a) + list(boxes)):
            return "held"
        return None

    def take(self, a):
        self.refuse("take", a)
        if not self.aside(a):
            self.ends(a, "done")
            return "done"
        if self.why_take_falls(a, self.aside(a)):
            self.ends(a, "fall")
            return "falls"
        self.fact("took", a, self.clock() + 1)
        return "taken"

    def write(self, a):
        self.refuse("write", a)
        left = sorted(set(self.aside(a)) - {fact[2] for fact in self.found("wrote", a)})
        self.fact("wrote", a, left[0], self.aside(a)[left[0]], self.found("took", a)[0][2])
        if left[1:]:
            return "written"
        self.ends(a, "done")
        return "done"

    def fall(self, a):
        self.refuse("fall", a)
        self.ends(a, "fall")

    def log(self):
        return list(self.events)

    def order(self):
        ranked = []
        for place, fact in enumerate(self.found("began")):
            took = self.found("took", fact[1])
            ranked.append((took[0][2], 0, place, fact[1]) if took else (self.glance(fact[1]), 1, place, fact[1]))
        return [rank[3] for rank in sorted(ranked)]


class Waiting(Exception):
    pass


def deeds_of(world, deeds, me, caught):
    """Tells, ahead of each deed, what a step does there; caught: some try takes a wait up here."""
    place = 0
    while place < len(deeds):
        deed = deeds[place]
        place += 1
        if deed[0] == "look" and deed[2] not in me["puts"]:
            me["hands"][deed[1]] = yield ("look", deed[2])
            continue
        if deed[0] == "wait" and not caught:
            yield ("sleep",)
        yield ("own",)
        if deed[0] == "look":
            me["hands"][deed[1]] = me["puts"][deed[2]]
        elif deed[0] == "put":
            me["puts"][deed[1]] = me["hands"][deed[2]]
        elif deed[0] == "set":
            me["hands"][deed[1]] = deed[2]
        elif deed[0] == "plus":
            me["hands"][deed[1]] = (me["hands"][deed[1]] + me["hands"][deed[2]]) % world[1]
        elif deed[0] == "leap":
            place += deed[2] if me["hands"][deed[1]] == 0 else 0
        elif deed[0] == "wait":
            raise Waiting()
        else:
            kept = (list(me["hands"]), dict(me["puts"]))
            try:
                yield from deeds_of(world, deed[1], me, True)
            except Waiting:
                me["hands"], me["puts"] = kept
                yield from deeds_of(world, deed[2], me, caught)


class Tries:
    def __init__(self, world, state, dealings, patience=None):
        self.world, self.dealings, self.patience = world, dealings, patience
        self.keeper = Keeper(world, state)
        self.words = []
        self.me = {}

    def own_words(self, i):
        return [(place, word) for place, (j, word) in enumerate(self.words) if j == i]

    def is_done(self, i):
        return "done" in [word for place, word in self.own_words(i)]

    def lately(self, i):
        """The words since the first step, or since it woke."""
        own = self.own_words(i)
        slept = [k for k, (place, word) in enumerate(own) if word == "slept"]
        return [(place, word) for place, word in own[slept[-1] + 1 if slept else 0:] if word != "asleep"]

    def sleeps(self, i):
        own = [word for place, word in self.own_words(i) if word != "asleep"]
        return own[-1:] == ["slept"] and not self.keeper.changed(self.me[i]["attempt"])

    def since(self, i, stepping):
        """When it came to stand in the row, or None."""
        if self.patience is None or self.is_done(i) or self.sleeps(i):
            return None
        lately = self.lately(i) + ([(len(self.words), "now")] if i == stepping else [])
        if self.patience == 0:
            return lately[0][0] if lately else None
        fell = [place for place, word in lately if word == "fell"]
        return fell[self.patience - 1] if len(fell) >= self.patience else None

    def row(self, stepping):
        standing = [(self.since(i, stepping), i) for i in range(len(self.dealings))]
        return [i for since, i in sorted(pair for pair in standing if pair[0] is not None)]

    def go(self, i):
        word = self.word_of(i)
        self.words.append((i, word))
        return word

    def has_attempt(self, i):
        return i in self.me and self.keeper.is_open(self.me[i]["attempt"])

    def word_of(self, i):
        if self.is_done(i):
            return "idle"
        if self.sleeps(i):
            return "asleep"
        row = self.row(i)
        if i in row[1:]:
            return "held"
        if not self.has_attempt(i):
            return self.begins(i)
        me = self.me[i]
        a = me["attempt"]
        if self.keeper.found("took", a):
            return {"written": "wrote", "done": "done"}[self.keeper.write(a)]
        if me["ask"] == ("take",):
            return self.takes(i, row)
        if me["ask"] == ("sleep",):
            self.keeper.fall(a)
            return "slept"
        number = None
        if me["ask"][0] == "look":
            if row[:1] == [i] and self.keeper.why_falls(a, me["ask"][1]) == "held":
                return "held"
            told = self.keeper.look(a, me["ask"][1])
            if told == ("falls",):
                return "fell"
            number = told[1]
        me["ask"] = self.next_ask(me, number)
        return "went"

    def next_ask(self, me, number):
        try:
            return me["deeds"].send(number)
        except StopIteration:
            return ("take",)

    def begins(self, i):
        me = {"attempt": len(self.keeper.found("began")), "hands": [0, 0, 0, 0], "puts": {}}
        me["deeds"] = deeds_of(self.world, self.dealings[i], me, False)
        me["ask"] = self.next_ask(me, None)
        self.me[i] = me
        self.keeper.begin(me["attempt"])
        return "begun"

    def takes(self, i, row):
        me = self.me[i]
        a = me["attempt"]
        if me["puts"] and row and row[0] != i and self.has_attempt(row[0]):
            return "held"
        if row[:1] == [i] and self.keeper.why_take_falls(a, me["puts"]) == "held":
            return "held"
        for b, v in sorted(me["puts"].items()):
            self.keeper.put(a, b, v)
        return {"done": "done", "taken": "took", "falls": "fell"}[self.keeper.take(a)]

    def log(self):
        return self.keeper.log()

    def now(self):
        return self.keeper.now()

    def falls(self, i):
        return [word for place, word in self.own_words(i)].count("fell")

    def hands(self, i):
        return tuple(self.me[i]["hands"]) if self.is_done(i) else None

    def order(self):
        owners = {self.me[i]["attempt"]: i for i in self.me if self.is_done(i)}
        return [owners[a] for a in self.keeper.order() if a in owners]

    def rests(self):
        return all(self.is_done(i) or self.sleeps(i) for i in range(len(self.dealings)))
