"""What is handed in stays as it was, and what is told is the asker's own."""

import copy
import unittest

from oneglance.alone import alone, footprint
from oneglance.dealings import deeds_in, is_dealing
from oneglance.wholes import is_whole
from oneglance.worlds import is_state, is_world
from tests.things import ANYTHING, HUGE, woven_dealings

WORLD = (3, 7)
STATE = (4, 5, 0)
WAIT = ("wait",)


class WholeTest(unittest.TestCase):
    def test_whole_numbers(self):
        for number in (0, 1, -1, 10 ** 60 - 1, -HUGE):
            self.assertIs(is_whole(number), True)

    def test_other_things(self):
        for thing in (True, False, None, "", "1", (), (1,), [], [1]):
            self.assertIs(is_whole(thing), False)


class HandedInTest(unittest.TestCase):
    def test_anything_stays_as_it_was(self):
        things = copy.deepcopy(ANYTHING) + [[3, 7], [WAIT], (["wait"],), [4, 5, 0], (("try", [WAIT], [WAIT]),)]
        before = repr(things)
        for thing in things:
            is_world(thing)
            is_state(WORLD, thing)
            is_dealing(WORLD, thing)
        self.assertEqual(repr(things), before)

    def test_dealings_and_states_stay_as_they_were(self):
        for dealing in woven_dealings(6, WORLD, 100):
            before = repr((WORLD, dealing, STATE))
            for told in (alone, footprint):
                told(WORLD, dealing, STATE)
            deeds_in(dealing)
            is_dealing(WORLD, dealing)
            self.assertEqual(repr((WORLD, dealing, STATE)), before)

    def test_what_is_done_to_a_thing_later_changes_no_answer(self):
        thing = [3, 7]
        self.assertIs(is_world(tuple(thing)), True)
        thing.append(9)
        self.assertIs(is_world(tuple(thing)), False)
        self.assertIs(is_world((3, 7)), True)


class ToldTest(unittest.TestCase):
    def test_a_changed_list_of_boxes_changes_nothing_later(self):
        dealing = (("look", 0, 2), ("look", 0, 0), WAIT)
        first = alone(WORLD, dealing, STATE)
        first[1].append(9)
        second = alone(WORLD, dealing, STATE)
        self.assertEqual(second, ("waits", [0, 2]))
        second[1].clear()
        self.assertEqual(footprint(WORLD, dealing, STATE), ([0, 2], []))

    def test_a_changed_footprint_changes_nothing_later(self):
        for dealing in ((), (WAIT,), (("look", 0, 2), ("put", 1, 0)), (("look", 0, 2), ("put", 1, 0), WAIT)):
            first = footprint(WORLD, dealing, STATE)
            kept = copy.deepcopy(first)
            first[0].append(9)
            first[1].append((9, 9))
            self.assertEqual(footprint(WORLD, dealing, STATE), kept)

    def test_no_two_lists_told_are_one(self):
        for dealing in ((), (WAIT,), (("look", 0, 2), ("put", 1, 0))):
            first = footprint(WORLD, dealing, STATE)
            second = footprint(WORLD, dealing, STATE)
            lists = [first[0], first[1], second[0], second[1]]
            self.assertEqual(len({id(told) for told in lists}), 4)
        self.assertIsNot(alone(WORLD, (WAIT,), STATE)[1], alone(WORLD, (WAIT,), STATE)[1])

    def test_a_later_telling_changes_none_that_was_told(self):
        first = footprint(WORLD, (("look", 0, 2), ("put", 1, 0)), STATE)
        footprint(WORLD, (("look", 0, 1), ("put", 2, 0)), STATE)
        alone(WORLD, (("look", 0, 0), WAIT), STATE)
        self.assertEqual(first, ([2], [(1, 0)]))
