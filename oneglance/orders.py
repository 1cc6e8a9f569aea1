"""Orders of a log's attempts, and the states behind them."""

from oneglance.logs import course_of
from oneglance.wholes import is_whole


class Asking:
    def __init__(self, course, every):
        self.course = course
        self.ones = asked_in(course, every)
        self.needed = {}
        for a in self.ones:
            # Whoever is not asked stands nowhere in the order, so it can't be missed ahead of this one.
            self.needed[a] = [one for one in course.before[a] if is_asked(course, every, one)]

    def may_be_next(self, a, gone, state):
        return all([one in gone for one in self.needed[a]]) and fits(self.course, a, state)

    def is_good(self, order, state):
        if sorted(order) != self.ones:
            return False
        gone = {}
        reached = state
        for a in order:
            if not self.may_be_next(a, gone, reached):
                return False
            gone[a] = True
            reached = state_with(self.course, a, reached)
        return True


def is_asked(course, every, a):
    return every or course.ends[a] == "done"


def asked_in(course, every):
    return [a for a in sorted(course.ends) if is_asked(course, every, a)]


def asked(log, every):
    return asked_in(course_of(log), every)


def fits(course, a, state):
    for need in course.needs[a]:
        if state[need[0]] != need[1]:
            return False
    return True


def state_with(course, a, state):
    # What one that fell or is still under way has put was never seen by others.
    if course.ends[a] != "done":
        return state
    return tuple([course.puts[a].get(box, number) for box, number in enumerate(state)])


def states_along(course, state, some):
    states = [state]
    for a in some:
        states.append(state_with(course, a, states[-1]))
    return states


def is_order(world, state, log, every, order):
    if not all([is_whole(a) for a in order]):
        return False
    return Asking(course_of(log), every).is_good(order, state)


def behind(world, state, log, some):
    return states_along(course_of(log), state, some)[-1]


def moments(world, state, log, some, a):
    course = course_of(log)
    return [k for k, reached in enumerate(states_along(course, state, some)) if fits(course, a, reached)]
