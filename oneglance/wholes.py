"""Whole numbers, told apart from all other things."""


def is_whole(thing):
    # To Python a truth is an int, but it is no whole number here.
    return isinstance(thing, int) and not isinstance(thing, bool)


def is_within(thing, least, most):
    return is_whole(thing) and least <= thing <= most
