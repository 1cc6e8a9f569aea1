"""Tales: whose number each look told."""

from oneglance.wholes import is_whole, is_within

MOST_ATTEMPTS = 30
MOST_BOXES = 6
AT_FIRST = -1


def is_tale(thing):
    if not isinstance(thing, tuple) or len(thing) != 4 or not is_within(thing[0], 1, MOST_ATTEMPTS):
        return False
    many = thing[0]
    # What a look may tell hangs on the writers, so these are asked ahead of it.
    return is_times(many, thing[1]) and is_writers(many, thing[2]) and is_looks(many, thing[2], thing[3])


def is_times(many, thing):
    return isinstance(thing, tuple) and all([is_time(many, part) for part in thing]) and is_rising(thing)


def is_time(many, thing):
    if not isinstance(thing, tuple) or len(thing) != 2:
        return False
    return all([is_within(a, 0, many - 1) for a in thing]) and thing[0] != thing[1]


def is_writers(many, thing):
    if not isinstance(thing, tuple) or not is_within(len(thing), 1, MOST_BOXES):
        return False
    return all([are_unlike(many, part) for part in thing])


def are_unlike(many, thing):
    if not isinstance(thing, tuple) or not all([is_within(a, 0, many - 1) for a in thing]):
        return False
    return len(set(thing)) == len(thing)


def is_looks(many, writers, thing):
    if not isinstance(thing, tuple) or not all([is_look(many, writers, part) for part in thing]):
        return False
    # Rising without the sources is rising with them, and no attempt looks into a box twice.
    return is_rising([part[:2] for part in thing])


def is_look(many, writers, thing):
    if not isinstance(thing, tuple) or len(thing) != 3:
        return False
    if not is_within(thing[0], 0, many - 1) or not is_within(thing[1], 0, len(writers) - 1):
        return False
    return is_source(writers[thing[1]], thing[0], thing[2])


def is_source(row, a, thing):
    return is_whole(thing) and (thing == AT_FIRST or (thing in row and thing != a))


def is_rising(parts):
    return all([one < other for one, other in zip(parts, parts[1:])])


def would_tell(tale, order):
    return [last_ahead(tale[2][look[1]], order, look[0]) for look in tale[3]]


def last_ahead(row, order, a):
    # The last one along the order: the writers' own row may go another way than it.
    last = AT_FIRST
    for one in order[:order.index(a)]:
        if one in row:
            last = one
    return last
