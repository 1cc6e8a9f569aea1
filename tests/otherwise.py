"""A second telling of logs, orders and tables, straight from what is said of them, to set beside the program's."""

import itertools


def has_form(world, event):
    boxes_and_numbers = [200, world[0], world[1]]
    bounds = {"begin": [200], "done": [200], "fall": [200], "look": boxes_and_numbers, "put": boxes_and_numbers}
    if type(event) is not tuple or not event or type(event[0]) is not str or event[0] not in bounds:
        return False
    parts, most = event[1:], bounds[event[0]]
    return len(parts) == len(most) and all(type(part) is int and 0 <= part < bound for part, bound in zip(parts, most))


def events_of(log, a):
    return [event for event in log if event[1] == a]


def keeps_to_itself(own):
    words = [event[0] for event in own]
    ends = [place for place, word in enumerate(words) if word in ("done", "fall")]
    if words[0] != "begin" or words.count("begin") != 1 or ends not in ([], [len(words) - 1]):
        return False
    for place, event in enumerate(own):
        put = [other[3] for other in own[:place] if other[0] == "put" and other[2:3] == event[2:3]]
        if event[0] == "look" and put and put[-1] != event[3]:
            return False
    return True


def is_log(world, thing):
    if type(thing) is not list or len(thing) > 2000 or not all(has_form(world, event) for event in thing):
        return False
    return all(keeps_to_itself(events_of(thing, a)) for a in {event[1] for event in thing})


def attempts(log):
    return sorted({event[1] for event in log})


def end_of(log, a):
    last = events_of(log, a)[-1][0]
    return last if last in ("done", "fall") else "open"


def outer_looks(log, a):
    own = events_of(log, a)
    puts = [(place, event[2]) for place, event in enumerate(own) if event[0] == "put"]
    return [event[2:] for place, event in enumerate(own)
            if event[0] == "look" and not any(put < place and box == event[2] for put, box in puts)]


def puts_of(log, a):
    return sorted({event[2]: event[3] for event in events_of(log, a) if event[0] == "put"}.items())


def is_ahead(log, one, other):
    ends = [place for place, event in enumerate(log) if event in (("done", one), ("fall", one))]
    return ends != [] and ends[0] < log.index(("begin", other))


def ahead(log):
    return [pair for pair in itertools.product(attempts(log), repeat=2) if is_ahead(log, *pair)]


def asked(log, every):
    return [a for a in attempts(log) if every or end_of(log, a) == "done"]


def behind(state, log, some):
    boxes = list(state)
    for a in some:
        for box, number in puts_of(log, a) if end_of(log, a) == "done" else []:
            boxes[box] = number
    return tuple(boxes)


def fits(log, a, state):
    return all(state[box] == number for box, number in outer_looks(log, a))


def is_order(state, log, every, order):
    if sorted(order) != asked(log, every):
        return False
    if any(is_ahead(log, later, sooner) for sooner, later in itertools.combinations(order, 2)):
        return False
    return all(fits(log, a, behind(state, log, order[:place])) for place, a in enumerate(order))


def good_orders(state, log, every):
    return [list(order) for order in itertools.permutations(asked(log, every))
            if is_order(state, log, every, list(order))]


def steps_on(state, log, every, place):
    """The places that must stand in a table, too, where this place does."""
    gone, state = place
    ones = asked(log, every)
    return [(tuple(sorted(gone + (a,))), behind(state, log, [a])) for a in ones
            if a not in gone and fits(log, a, state) and all(b in gone for b in ones if is_ahead(log, b, a))]


def reached(state, log, every):
    """All places that any row of steps from the first one leads to, those with all asked ones too."""
    places = [((), state)]
    for place in places:
        places += [other for other in steps_on(state, log, every, place) if other not in places]
    return places


def shows_none(state, log, every, table):
    """Of a list whose tuples have the form that is told."""
    whole = tuple(asked(log, every))
    return (((), state) in table and all(gone != whole for gone, reached_state in table)
            and all(other in table for place in table for other in steps_on(state, log, every, place)))


def first_bad(state, log):
    for many in range(len(log) + 1):
        if not good_orders(state, log[:many], True):
            return many
    return None
