"""A second telling of tales, straight from what is said of them, to set beside the program's; and tales to try."""

import itertools
import random


def are_attempts(many, parts):
    return all(type(a) is int and 0 <= a < many for a in parts)


def is_tale(thing):
    if type(thing) is not tuple or len(thing) != 4 or type(thing[0]) is not int or thing[0] not in range(1, 31):
        return False
    many, times, writers, looks = thing
    if any(type(part) is not tuple for part in (times, writers, looks)) or len(writers) not in range(1, 7):
        return False
    if any(type(part) is not tuple for part in times + writers + looks):
        return False
    if any(len(part) != 2 or not are_attempts(many, part) or len(set(part)) != 2 for part in times):
        return False
    if any(not are_attempts(many, row) or len(set(row)) != len(row) for row in writers):
        return False
    for look in looks:
        if len(look) != 3 or any(type(part) is not int for part in look) or not are_attempts(many, look[:1]):
            return False
        if look[1] not in range(len(writers)) or look[2] not in [-1] + [a for a in writers[look[1]] if a != look[0]]:
            return False
    same = {look[:2] for look in looks}
    return list(times) == sorted(set(times)) and list(looks) == sorted(set(looks)) and len(same) == len(looks)


def would_tell(tale, order):
    told = []
    for a, box, source in tale[3]:
        ahead = [one for one in order[:order.index(a)] if one in tale[2][box]]
        told.append(ahead[-1] if ahead else -1)
    return told


def musts(tale):
    many, times, writers, looks = tale
    found = set(times)
    for row in writers:
        for place in range(1, len(row)):
            found.add((row[place - 1], row[place]))
    for a, box, source in looks:
        row = (-1,) + writers[box]
        if source != -1:
            found.add((source, a))
        behind = row[row.index(source) + 1:][:1]
        found |= {(a, one) for one in behind if one != a}
    return sorted(found)


def is_order(tale, some):
    if sorted(some) != list(range(tale[0])):
        return False
    places = {a: place for place, a in enumerate(some)}
    return all(places[one] < places[other] for one, other in musts(tale))


def keeps_all(tale, order):
    """Whether an order keeps times and writers and would tell what was told."""
    pairs = list(itertools.combinations(order, 2))
    if not set(tale[1]) <= set(pairs):
        return False
    if any([a for a in order if a in row] != list(row) for row in tale[2]):
        return False
    return would_tell(tale, order) == [source for a, box, source in tale[3]]


def is_ring(tale, some):
    if len(some) < 2 or len(set(some)) < len(some):
        return False
    return all((some[place - 1], some[place]) in musts(tale) for place in range(len(some)))


def woven_tale(source, many, boxes, honest):
    """An honest tale is one that its own order tells; of others nothing is sure but that they are tales."""
    order = source.sample(range(many), many)
    writers = []
    for box in range(boxes):
        row = source.sample(range(many), source.randint(0, min(many, 6)))
        writers.append(tuple(sorted(row, key=order.index) if honest else row))
    pairs = [source.sample(range(many), 2) for step in range(source.randint(0, many) if many > 1 else 0)]
    times = {tuple(sorted(pair, key=order.index) if honest else pair) for pair in pairs}
    looks = {}
    for step in range(source.randint(0, 2 * many)):
        a, box = source.randrange(many), source.randrange(boxes)
        looks[(a, box)] = source.choice([-1] + [one for one in writers[box] if one != a])
    looks = tuple((a, box, looks[(a, box)]) for a, box in sorted(looks))
    tale = (many, tuple(sorted(times)), tuple(writers), looks)
    if honest:
        told = would_tell(tale, order)
        tale = tale[:3] + (tuple(look[:2] + (one,) for look, one in zip(looks, told)),)
    return tale


def woven_tales(seed, times, most):
    source = random.Random(seed)
    return [woven_tale(source, source.randint(1, most), source.randint(1, 6), source.random() < 0.6)
            for step in range(times)]
