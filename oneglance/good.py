"""A good order of a log's attempts, or a table that shows that there is none."""

from oneglance.errors import TooMany
from oneglance.logs import Course, course_of
from oneglance.orders import Asking, state_with
from oneglance.wholes import is_whole
from oneglance.worlds import is_state

MOST_ASKED = 8


def asking_few(log, every):
    asking = Asking(course_of(log), every)
    many = len(asking.ones)
    if many > MOST_ASKED:
        raise TooMany(f"{many} attempts are asked, at most {MOST_ASKED} may be")
    return asking


def ways_on(asking, place):
    gone = place[0]
    state = place[1]
    return [(a, place_behind(asking, place, a)) for a in asking.ones
            if a not in gone and asking.may_be_next(a, gone, state)]


def place_behind(asking, place, a):
    return (tuple(sorted(place[0] + (a,))), state_with(asking.course, a, place[1]))


def order_or_table(asking, state):
    # What may come next hangs on who is gone and on the state alone, so each such place is gone through once.
    orders = {((), state): []}
    left = [((), state)]
    while len(left) > 0:
        place = left.pop()
        if len(place[0]) == len(asking.ones):
            return ("good", orders[place])
        for a, reached in ways_on(asking, place):
            if reached not in orders:
                orders[reached] = orders[place] + [a]
                left.append(reached)
    return ("none", list(orders))


def good(world, state, log, every):
    return order_or_table(asking_few(log, every), state)


def shows_none(world, state, log, every, thing):
    asking = asking_few(log, every)
    places = closed_places(world, state, asking.ones, thing, lambda place: ways_on(asking, place))
    return places is not None and all([len(place[0]) < len(asking.ones) for place in places])


def closed_places(world, state, ones, thing, ways):
    if not isinstance(thing, list) or not all([is_place(world, ones, place) for place in thing]):
        return None
    places = dict([(place, True) for place in thing])
    if ((), state) not in places:
        return None
    for place in places:
        if not all([way[1] in places for way in ways(place)]):
            return None
    return places


def is_place(world, ones, thing):
    if not isinstance(thing, tuple) or len(thing) != 2:
        return False
    return is_some(ones, thing[0]) and is_state(world, thing[1])


def is_some(ones, thing):
    # To Python a truth is like 0 or 1, so this is asked ahead of the comparison.
    if not isinstance(thing, tuple) or not all([is_whole(a) for a in thing]):
        return False
    return list(thing) == [a for a in ones if a in thing]


def first_bad(world, state, log):
    asking_few(log, True)
    course = Course()
    order = []
    for many, event in enumerate(log, start=1):
        course.follow(event)
        asking = Asking(course, True)
        # Most events leave the order of before good; only where one does not is another sought.
        if not asking.is_good(order, state):
            told = order_or_table(asking, state)
            if told[0] == "none":
                return many
            order = told[1]
    return None
