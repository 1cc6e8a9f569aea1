"""Dealings: tuples of deeds over the boxes of a world and four hands."""

from oneglance.wholes import is_within

MOST_IN_TUPLE = 12
MOST_IN_ALL = 40
MOST_TRIES = 3
HAND = (0, 3)
LEAP = (1, 12)


def is_dealing(world, thing):
    # Deeds are counted only in what has the form of a dealing: of other things there is nothing to count.
    return is_run(world, thing, MOST_TRIES) and deeds_in(thing) <= MOST_IN_ALL


def deeds_in(dealing):
    return sum([deeds_of(deed) for deed in dealing])


def deeds_of(deed):
    if deed[0] == "try":
        return 1 + deeds_in(deed[1]) + deeds_in(deed[2])
    return 1


def is_run(world, thing, tries_left):
    if not isinstance(thing, tuple) or len(thing) > MOST_IN_TUPLE:
        return False
    return all([is_deed(world, deed, tries_left) for deed in thing])


def is_deed(world, thing, tries_left):
    if not isinstance(thing, tuple) or len(thing) == 0:
        return False
    if thing[0] == "try":
        return is_try(world, thing, tries_left)
    bounds = bounds_of(world, thing[0])
    if bounds is None or len(thing) != 1 + len(bounds):
        return False
    return all([is_within(part, bound[0], bound[1]) for part, bound in zip(thing[1:], bounds)])


def is_try(world, thing, tries_left):
    if len(thing) != 3 or tries_left == 0:
        return False
    return is_run(world, thing[1], tries_left - 1) and is_run(world, thing[2], tries_left - 1)


def bounds_of(world, word):
    # The word may be anything, a list too, so it is compared and never looked up in a dict.
    box = (0, world[0] - 1)
    if word == "look":
        return (HAND, box)
    if word == "put":
        return (box, HAND)
    if word == "set":
        return (HAND, (0, world[1] - 1))
    if word == "plus":
        return (HAND, HAND)
    if word == "leap":
        return (HAND, LEAP)
    if word == "wait":
        return ()
    return None
