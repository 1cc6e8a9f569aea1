"""Logs of attempts, and what a log tells of each attempt."""

from oneglance.wholes import is_within

MOST_EVENTS = 2000
LAST_ATTEMPT = 199


class Course:
    def __init__(self):
        self.ends = {}
        self.looks = {}
        # The outer looks each once: whoever asks whether they fit need not go through a thousand like ones.
        self.needs = {}
        self.puts = {}
        self.before = {}

    def allows(self, event):
        a = event[1]
        if event[0] == "begin":
            return a not in self.ends
        if self.ends.get(a) != "open":
            return False
        if event[0] == "look":
            return self.puts[a].get(event[2], event[3]) == event[3]
        return True

    def follow(self, event):
        a = event[1]
        if event[0] == "begin":
            self.enter(a)
        elif event[0] == "look":
            self.note_look(a, event[2], event[3])
        elif event[0] == "put":
            self.puts[a][event[2]] = event[3]
        else:
            self.ends[a] = event[0]

    def enter(self, a):
        self.before[a] = [one for one in self.ends if self.ends[one] != "open"]
        self.ends[a] = "open"
        self.looks[a] = []
        self.needs[a] = {}
        self.puts[a] = {}

    def note_look(self, a, box, number):
        if box not in self.puts[a]:
            self.looks[a].append((box, number))
            self.needs[a][(box, number)] = True


def course_of(log):
    course = Course()
    for event in log:
        course.follow(event)
    return course


def is_log(world, thing):
    if not isinstance(thing, list) or len(thing) > MOST_EVENTS:
        return False
    course = Course()
    for event in thing:
        if not is_event(world, event) or not course.allows(event):
            return False
        course.follow(event)
    return True


def is_event(world, thing):
    if not isinstance(thing, tuple) or len(thing) < 2 or not is_within(thing[1], 0, LAST_ATTEMPT):
        return False
    # The word may be anything, a list too, so it is compared and never looked up in a dict.
    if thing[0] in ("begin", "done", "fall"):
        return len(thing) == 2
    if thing[0] in ("look", "put") and len(thing) == 4:
        return is_within(thing[2], 0, world[0] - 1) and is_within(thing[3], 0, world[1] - 1)
    return False


def attempts(log):
    return sorted(course_of(log).ends)


def end_of(log, a):
    return course_of(log).ends[a]


def outer_looks(log, a):
    return course_of(log).looks[a]


def puts_of(log, a):
    return sorted(course_of(log).puts[a].items())


def ahead(log):
    before = course_of(log).before
    pairs = []
    for other in before:
        pairs.extend([(one, other) for one in before[other]])
    return sorted(pairs)
