import copy
import random
import unittest

from oneglance.alone import alone
from oneglance.rows import in_row
from tests.things import woven_dealings

WORLD = (3, 7)
STATE = (4, 5, 0)
WAIT = ("wait",)
ADD_ONE = (("look", 0, 0), ("set", 1, 1), ("plus", 0, 1), ("put", 0, 0))
COPY = (("look", 0, 0), ("put", 2, 0))
WAITS_FOR_BOX_TWO = (("look", 1, 1), ("look", 0, 2), ("leap", 0, 1), ("leap", 2, 1), WAIT, ("put", 1, 0))
NEVER = (("look", 0, 2), ("look", 0, 1), ("look", 0, 2), WAIT)


def row_otherwise(world, dealings, state, order):
    if not order:
        return ("done", state)
    told = alone(world, dealings[order[0]], state)
    if told[0] == "waits":
        return ("waits", 0, told[1])
    rest = row_otherwise(world, dealings, told[1], order[1:])
    return rest if rest[0] == "done" else ("waits", rest[1] + 1, rest[2])


class RowsTest(unittest.TestCase):
    def told(self, dealings, order, what, state=STATE):
        self.assertEqual(in_row(WORLD, dealings, state, order), what)

    def test_none_at_all(self):
        self.told([ADD_ONE], [], ("done", STATE))
        self.told([NEVER] * 12, [], ("done", STATE))

    def test_one(self):
        self.told([ADD_ONE], [0], ("done", (5, 5, 0)))
        self.told([()], [0], ("done", STATE))

    def test_each_begins_behind_the_one_ahead(self):
        self.told([ADD_ONE, COPY], [0, 1], ("done", (5, 5, 5)))
        self.told([ADD_ONE, COPY], [1, 0], ("done", (5, 5, 4)))

    def test_one_twice(self):
        self.told([ADD_ONE, COPY], [0, 0, 1, 0], ("done", (0, 5, 6)))

    def test_one_never(self):
        self.told([NEVER, ADD_ONE, NEVER], [1], ("done", (5, 5, 0)))

    def test_hands_begin_empty_each_time(self):
        self.told([(("set", 0, 3),), (("put", 1, 0),)], [0, 1], ("done", (4, 0, 0)))

    def test_more_often_than_there_are_dealings(self):
        self.told([ADD_ONE], [0] * 20, ("done", ((4 + 20) % 7, 5, 0)))

    def test_first_waits(self):
        self.told([NEVER], [0], ("waits", 0, [1, 2]))
        self.told([(WAIT,)], [0], ("waits", 0, []))

    def test_place_is_counted_in_the_order(self):
        self.told([NEVER, ADD_ONE], [1, 1, 0, 1, 0], ("waits", 2, [1, 2]))

    def test_boxes_of_the_first_that_waits_alone(self):
        self.told([COPY, (("look", 0, 1), WAIT), NEVER], [0, 1, 2], ("waits", 1, [1]))

    def test_what_waits_hangs_on_who_stands_ahead(self):
        dealings = [WAITS_FOR_BOX_TWO, COPY]
        self.told(dealings, [0], ("waits", 0, [1, 2]), (3, 1, 0))
        self.told(dealings, [1, 0], ("done", (3, 3, 3)), (3, 1, 0))

    def test_boxes_of_undone_deeds_count(self):
        tried = (("try", (("look", 0, 2), WAIT), (("look", 0, 0), WAIT)),)
        self.told([ADD_ONE, tried], [0, 1], ("waits", 1, [0, 2]))

    def test_up_to_twelve_dealings(self):
        for many in range(1, 13):
            dealings = [(("set", 0, number % 7), ("put", 1, 0)) for number in range(many)]
            for number in range(many):
                self.told(dealings, [number], ("done", (4, number % 7, 0)))

    def test_kinds_of_what_is_told(self):
        told = in_row(WORLD, [NEVER], STATE, [0])
        self.assertEqual([type(part) for part in (told,) + told], [tuple, str, int, list])
        told = in_row(WORLD, [ADD_ONE], STATE, [0])
        self.assertEqual([type(part) for part in (told,) + told], [tuple, str, tuple])

    def test_woven_rows(self):
        source = random.Random(11)
        world = (2, 3)
        for many in list(range(1, 13)) * 20:
            dealings = woven_dealings(source.random(), world, many)
            order = [source.randrange(many) for step in range(source.randrange(14))]
            state = (source.randrange(3), source.randrange(3))
            before = copy.deepcopy((dealings, order))
            self.assertEqual(in_row(world, dealings, state, order), row_otherwise(world, dealings, state, order))
            self.assertEqual((dealings, order), before)
