"""Whether all dealings can be done one after another, and whether some row leaves some waiting for ever."""

from oneglance.alone import alone
from oneglance.good import closed_places


def ways_from(world, dealings, place):
    ways = []
    for number, dealing in enumerate(dealings):
        if number not in place[0]:
            told = alone(world, dealing, place[1])
            if told[0] == "done":
                ways.append((number, (tuple(sorted(place[0] + (number,))), told[1])))
    return ways


def rows_to_places(world, state, dealings):
    # Places of fewer done ones come first, so the first of a kind is one of the fewest.
    rows = {((), state): []}
    left = [((), state)]
    while len(left) > 0:
        place = left.pop(0)
        for number, reached in ways_from(world, dealings, place):
            if reached not in rows:
                rows[reached] = rows[place] + [number]
                left.append(reached)
    return rows


def is_stuck(world, dealings, place):
    return len(place[0]) < len(dealings) and len(ways_from(world, dealings, place)) == 0


def all_done(world, state, dealings):
    rows = rows_to_places(world, state, dealings)
    for place in rows:
        if len(place[0]) == len(dealings):
            return ("all", rows[place])
    return ("never", list(rows))


def stuck(world, state, dealings):
    rows = rows_to_places(world, state, dealings)
    for place in rows:
        if is_stuck(world, dealings, place):
            return ("stuck", rows[place])
    return ("free", list(rows))


def shows_never(world, state, dealings, thing):
    places = told_places(world, state, dealings, thing)
    return places is not None and all([len(place[0]) < len(dealings) for place in places])


def shows_free(world, state, dealings, thing):
    places = told_places(world, state, dealings, thing)
    return places is not None and not any([is_stuck(world, dealings, place) for place in places])


def told_places(world, state, dealings, thing):
    ones = list(range(len(dealings)))
    return closed_places(world, state, ones, thing, lambda place: ways_from(world, dealings, place))
