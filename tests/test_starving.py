import itertools
import random
import unittest

from oneglance.dealings import deeds_in
from oneglance.starving import starver
from oneglance.tries import Tries
from tests.things import woven_run

WORLD = (2, 5)
STATE = (0, 3)
WAIT = ("wait",)
COPY = (("look", 0, 0), ("put", 0, 0))
BLIND = (("put", 0, 0),)
PAIR = (("look", 0, 0), ("look", 1, 1))
TWICE = (("put", 0, 0), ("put", 1, 0))
LOOKS = (("look", 0, 0),)


def falls_behind(case, weaving, i):
    tries = Tries(*case)
    for j in weaving:
        tries.go(j)
    return tries.falls(i)


def fewest_steps(case, i, most):
    """For each number of falls the fewest steps that bring so many, by all weavings of so many steps."""
    fewest = {}
    for weaving in itertools.product(range(len(case[2])), repeat=most):
        tries = Tries(*case)
        for steps, j in enumerate(weaving, start=1):
            tries.go(j)
            many = tries.falls(i)
            if many and steps < fewest.get(many, most + 1):
                fewest[many] = steps
    return fewest


def woven_case(source, many):
    world = source.choice([(1, 2), (2, 2), (2, 3)])
    dealings = []
    while len(dealings) < many:
        dealing = woven_run(source, world, 2, source.choice([1, 2, 3, 6]))
        # Those that neither look nor put never fall and make none fall.
        if deeds_in(dealing) <= 6 and ("look" in str(dealing) or "put" in str(dealing)):
            dealings.append(dealing)
    return (world, tuple(source.randrange(world[1]) for b in range(world[0])), dealings)


class StarverTest(unittest.TestCase):
    def told(self, dealings, i, many, most, state=STATE):
        return starver(WORLD, state, dealings, i, many, most)

    def does(self, case, i, many, weaving):
        self.assertEqual(falls_behind(case, weaving, i), many)
        self.assertEqual(falls_behind(case, weaving[:-1], i), many - 1)

    def test_one_that_is_held_up(self):
        # The other begins, puts and takes; then each beginning and look falls.
        for many in (1, 2, 3):
            fewest = 3 + 2 * many
            weaving = self.told([LOOKS, BLIND], 0, many, 14)
            self.assertEqual(len(weaving), fewest)
            self.does((WORLD, STATE, [LOOKS, BLIND]), 0, many, weaving)
            self.assertEqual(len(self.told([LOOKS, BLIND], 0, many, fewest)), fewest)
            self.assertIsNone(self.told([LOOKS, BLIND], 0, many, fewest - 1))

    def test_each_one_of_them(self):
        case = (WORLD, STATE, [LOOKS, BLIND, COPY])
        self.assertEqual(len(self.told(case[2], 0, 1, 14)), 5)
        self.assertEqual(len(self.told(case[2], 1, 1, 14)), 7)
        self.assertEqual(len(self.told(case[2], 2, 1, 14)), 5)
        for i in range(3):
            self.does(case, i, 1, self.told(case[2], i, 1, 14))

    def test_none(self):
        self.assertIsNone(self.told([LOOKS, LOOKS], 0, 1, 14))
        self.assertIsNone(self.told([(), BLIND], 0, 1, 14))
        self.assertIsNone(self.told([(("look", 0, 1),), BLIND, COPY], 0, 1, 14))
        self.assertIsNone(self.told([(WAIT,), (WAIT,), (WAIT,)], 1, 1, 14))

    def test_sleeping_is_no_falling(self):
        self.assertIsNone(self.told([(("look", 0, 0), WAIT), LOOKS], 0, 1, 14))

    def test_one_that_must_wake_to_fall_again(self):
        sleeper = (("look", 0, 0), ("leap", 0, 1), ("leap", 1, 12), WAIT)
        case = (WORLD, STATE, [sleeper, COPY, (("set", 0, 1), ("put", 0, 0))])
        weaving = self.told(case[2], 0, 2, 14)
        self.does(case, 0, 2, weaving)

    def test_a_most_of_few_steps(self):
        for most in range(1, 5):
            self.assertIsNone(self.told([LOOKS, BLIND], 0, 1, most))

    def test_kinds_of_what_is_told(self):
        weaving = self.told([LOOKS, BLIND], 0, 1, 14)
        self.assertIs(type(weaving), list)
        self.assertEqual({type(j) for j in weaving}, {int})

    def check_all(self, case, i, most):
        fewest = fewest_steps(case, i, most)
        found = 0
        for many in (1, 2, 3):
            for limit in range(1, most + 1):
                weaving = starver(*case, i, many, limit)
                if fewest.get(many, most + 1) <= limit:
                    self.assertEqual(len(weaving), fewest[many], case)
                    self.does(case, i, many, weaving)
                    found += 1
                else:
                    self.assertIsNone(weaving, case)
        return found

    def test_two_woven(self):
        source = random.Random(91)
        found = [self.check_all(woven_case(source, 2), source.randrange(2), 10) for step in range(80)]
        self.assertGreater(sum(many > 0 for many in found), 8)

    def test_three_woven(self):
        source = random.Random(92)
        found = [self.check_all(woven_case(source, 3), source.randrange(3), 7) for step in range(50)]
        self.assertGreater(sum(many > 0 for many in found), 4)

    def test_two_of_a_kind(self):
        for dealings in ([COPY, COPY], [PAIR, TWICE], [TWICE, TWICE]):
            for i in range(2):
                self.check_all((WORLD, STATE, dealings), i, 11)

    def test_up_to_fourteen_steps(self):
        self.check_all((WORLD, STATE, [COPY, BLIND]), 0, 14)

    def test_six_deeds_each(self):
        deeds = (("look", 0, 0), ("set", 1, 1), ("plus", 0, 1), ("put", 0, 0), ("look", 2, 1), ("put", 1, 2))
        case = (WORLD, STATE, [deeds] * 3)
        weaving = starver(*case, 1, 3, 14)
        self.assertEqual(len(weaving), 14)
        self.does(case, 1, 3, weaving)
        self.assertIsNone(starver(*case, 1, 3, 13))
