"""The musts of a tale, and an order along which they lead onwards, or a ring of them."""

from oneglance.wholes import is_whole


def musts(tale):
    found = list(tale[1])
    for row in tale[2]:
        found.extend(list(zip(row, row[1:])))
    for look in tale[3]:
        found.extend(musts_of_look(tale[2][look[1]], look[0], look[2]))
    return sorted(set(found))


def musts_of_look(row, a, source):
    later = list(row)
    found = []
    if source in row:
        later = later[later.index(source) + 1:]
        found.append((source, a))
    # One that writes over what it looked at need not stand ahead of itself.
    if len(later) > 0 and later[0] != a:
        found.append((a, later[0]))
    return found


def order_or_ring(tale):
    before = those_before(tale)
    order = []
    left = list(before)
    while len(left) > 0:
        free = [a for a in left if not any([one in left for one in before[a]])]
        if len(free) == 0:
            return ("ring", ring_among(before, left))
        order.extend(free)
        left = [a for a in left if a not in free]
    return ("order", order)


def those_before(tale):
    before = {}
    for a in range(tale[0]):
        before[a] = []
    for one, other in musts(tale):
        before[other].append(one)
    return before


def ring_among(before, left):
    # Each that is left has one before it that is left, too, so going back must come round.
    trail = [left[0]]
    while True:
        back = [one for one in before[trail[-1]] if one in left][0]
        if back in trail:
            ring = trail[trail.index(back):]
            return list(reversed(ring))
        trail.append(back)


def is_tale_order(tale, some):
    if not all([is_whole(a) for a in some]) or sorted(some) != list(range(tale[0])):
        return False
    return all([some.index(one) < some.index(other) for one, other in musts(tale)])


def is_ring(tale, some):
    if not all([is_whole(a) for a in some]) or len(some) < 2 or len(set(some)) != len(some):
        return False
    pairs = musts(tale)
    return all([pair in pairs for pair in zip(some, some[1:] + some[:1])])
