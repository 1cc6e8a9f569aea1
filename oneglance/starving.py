"""Weavings of steps that make a dealing fall again and again."""

from oneglance.tries import Tries


def starver(world, state, dealings, i, many, most):
    seen = {}
    rows = [[]]
    for step in range(most):
        longer = []
        for row in one_step_longer(rows, len(dealings)):
            tries = tries_behind(world, state, dealings, row)
            if tries.falls(i) >= many:
                return row
            picture = picture_of(tries, i)
            # Of rows that come to the same the first one is as good as any.
            if picture not in seen:
                seen[picture] = True
                longer.append(row)
        rows = longer
    return None


def one_step_longer(rows, many):
    longer = []
    for row in rows:
        longer.extend([row + [j] for j in range(many)])
    return longer


def tries_behind(world, state, dealings, row):
    tries = Tries(world, state, dealings)
    for j in row:
        tries.go(j)
    return tries


def picture_of(tries, i):
    # All that further steps, and the falls of this one, hang on.
    keeper = tries.keeper
    marks = [keeper.mark(b) for b in range(len(keeper.now()))]
    ones = [picture_of_one(keeper, one) for one in tries.ones]
    return (tries.falls(i), keeper.clock(), keeper.now(), tuple(marks), tuple(ones))


def picture_of_one(keeper, one):
    if one.stage in ("out", "done"):
        return (one.stage,)
    attempt = keeper.known[one.attempt]
    seen = (attempt.glance, tuple(sorted(attempt.looked)), attempt.stamp, tuple(attempt.unwritten))
    return (one.stage, seen, one.doing.part, one.doing.held, one.doing.puts)
