"""Worlds (boxes, wheel) and their states."""

from oneglance.wholes import is_within

MOST_BOXES = 6
LEAST_WHEEL = 2
MOST_WHEEL = 1000


def is_world(thing):
    if not isinstance(thing, tuple) or len(thing) != 2:
        return False
    return is_within(thing[0], 1, MOST_BOXES) and is_within(thing[1], LEAST_WHEEL, MOST_WHEEL)


def is_state(world, thing):
    if not isinstance(thing, tuple) or len(thing) != world[0]:
        return False
    return all([is_within(number, 0, world[1] - 1) for number in thing])
