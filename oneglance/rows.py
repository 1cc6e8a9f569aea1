"""Dealings done one after another."""

from oneglance.alone import alone


def in_row(world, dealings, state, order):
    reached = state
    for place, number in enumerate(order):
        told = alone(world, dealings[number], reached)
        if told[0] == "waits":
            return ("waits", place, told[1])
        reached = told[1]
    return ("done", reached)
