import itertools
import unittest

from oneglance.alone import alone, footprint
from tests.things import woven_dealings

WORLD = (3, 7)
STATE = (4, 5, 0)
WAIT = ("wait",)


class FootprintTest(unittest.TestCase):
    def leaves(self, dealing, looked, puts, start=STATE):
        self.assertEqual(footprint(WORLD, dealing, start), (looked, puts))

    def test_no_deeds(self):
        self.leaves((), [], [])

    def test_looks_rise_and_stand_once(self):
        self.leaves((("look", 0, 2), ("look", 0, 0), ("look", 1, 2)), [0, 2], [])

    def test_deeds_that_look_nowhere(self):
        self.leaves((("set", 0, 1), ("plus", 0, 0), ("leap", 1, 1)), [], [])

    def test_look_behind_an_own_put_is_not_outer(self):
        self.leaves((("put", 1, 0), ("look", 1, 1)), [], [(1, 0)])

    def test_look_ahead_of_an_own_put_is_outer(self):
        self.leaves((("look", 1, 1), ("put", 1, 0), ("look", 1, 1)), [1], [(1, 0)])

    def test_look_behind_a_put_into_another_box_is_outer(self):
        self.leaves((("put", 1, 0), ("look", 1, 2)), [2], [(1, 0)])

    def test_look_behind_an_undone_put_is_outer(self):
        self.leaves((("try", (("put", 1, 0), WAIT), (("look", 0, 1),)),), [1], [])
        self.leaves((("try", (("put", 1, 0), WAIT), ()), ("look", 0, 1)), [1], [])

    def test_look_behind_a_put_that_stood_when_the_try_began(self):
        dealing = (("put", 1, 0), ("try", (("put", 2, 0), WAIT), (("look", 0, 1), ("look", 0, 2))))
        self.leaves(dealing, [2], [(1, 0)])

    def test_look_behind_a_put_of_a_try_that_went_through(self):
        self.leaves((("try", (("put", 1, 0),), ()), ("look", 0, 1)), [], [(1, 0)])

    def test_looks_in_undone_deeds_count(self):
        self.leaves((("try", (("look", 0, 2), WAIT), (("look", 0, 0),)),), [0, 2], [])

    def test_look_behind_an_own_put_in_undone_deeds_does_not_count(self):
        self.leaves((("try", (("put", 2, 0), ("look", 0, 2), WAIT), ()),), [], [])

    def test_last_number_put_into_a_box(self):
        puts = (("set", 0, 1), ("put", 2, 0), ("set", 0, 6), ("put", 2, 0), ("put", 0, 0), ("set", 0, 3), ("put", 0, 0))
        self.leaves(puts, [], [(0, 3), (2, 6)])

    def test_put_of_the_number_that_was_there(self):
        self.leaves((("look", 0, 1), ("put", 1, 0)), [1], [(1, 5)])

    def test_last_number_where_a_later_one_was_undone(self):
        dealing = (("set", 0, 1), ("put", 2, 0), ("try", (("set", 0, 6), ("put", 2, 0), WAIT), ()))
        self.leaves(dealing, [], [(2, 1)])

    def test_no_puts_where_it_waits(self):
        self.leaves((("set", 0, 1), ("put", 2, 0), ("look", 0, 1), WAIT), [1], [])
        self.leaves((("put", 2, 0), ("try", (("put", 1, 0), WAIT), (("put", 0, 0), WAIT))), [], [])

    def test_all_boxes_looked_at_where_it_waits(self):
        dealing = (("look", 0, 2), ("try", (("look", 0, 1), WAIT), (("put", 1, 0), ("look", 0, 1), WAIT)))
        self.leaves(dealing, [1, 2], [])
        self.assertEqual(alone(WORLD, dealing, STATE), ("waits", [1, 2]))

    def test_kinds_of_what_is_told(self):
        told = footprint(WORLD, (("look", 0, 1), ("put", 1, 0)), STATE)
        self.assertEqual([type(part) for part in (told, told[0], told[1], told[1][0])], [tuple, list, list, tuple])
        told = alone(WORLD, (), STATE)
        self.assertEqual([type(part) for part in told], [str, tuple, tuple])
        self.assertEqual([type(part) for part in alone(WORLD, (WAIT,), STATE)], [str, list])

    def test_it_goes_the_same_way_wherever_these_boxes_are_the_same(self):
        world = (3, 2)
        states = list(itertools.product(range(2), repeat=3))
        for dealing in woven_dealings(5, world, 300):
            for one, other in itertools.product(states, repeat=2):
                looked, puts = footprint(world, dealing, one)
                if all(one[box] == other[box] for box in looked):
                    self.assertEqual(footprint(world, dealing, other), (looked, puts))
                    self.assertEqual(alone(world, dealing, other)[0::2], alone(world, dealing, one)[0::2])
