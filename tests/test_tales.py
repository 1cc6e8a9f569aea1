import itertools
import random
import unittest

from oneglance.tales import is_tale, would_tell
from tests import otherwise_tales as otherwise
from tests.things import ANYTHING, HUGE, ODD_PARTS

LEAST = (1, (), ((),), ())
TALE = (4, ((0, 1), (0, 2), (1, 3)), ((0, 2, 1), (), (3,)), ((0, 1, -1), (1, 0, 2), (2, 0, 0), (3, 0, 1), (3, 2, -1)))


def bent_at(thing, place, part):
    return thing[:place] + (part,) + thing[place + 1:]


def bent_within(tale, part, place, other):
    return bent_at(tale, part, bent_at(tale[part], place, other))


class IsTaleTest(unittest.TestCase):
    def holds(self, thing):
        self.assertIs(is_tale(thing), True, thing)

    def fails(self, thing):
        self.assertIs(is_tale(thing), False, thing)

    def test_tales(self):
        self.holds(LEAST)
        self.holds(TALE)

    def test_each_number_of_attempts(self):
        for many in range(-2, 34):
            (self.holds if 1 <= many <= 30 else self.fails)((many, (), ((),), ()))
        for many in range(0, 34):
            (self.holds if 4 <= many <= 30 else self.fails)(bent_at(TALE, 0, many))

    def test_thirty_attempts_and_six_boxes(self):
        times = tuple(itertools.combinations(range(30), 2))
        looks = tuple((a, box, a - 1) for a in range(30) for box in range(6))
        self.holds((30, times, (tuple(range(30)),) * 6, looks))
        self.fails((31, times, (tuple(range(30)),) * 6, looks))
        self.fails((30, times, (tuple(range(30)),) * 7, looks))
        self.fails((30, times, (tuple(range(31)),) * 6, looks))
        self.fails((30, times + ((30, 0),), (tuple(range(30)),) * 6, looks))

    def test_each_number_of_boxes(self):
        for many in range(0, 10):
            (self.holds if 1 <= many <= 6 else self.fails)((2, (), ((1, 0),) * many, ()))

    def test_attempts_at_their_bounds_and_beyond(self):
        for a in range(-3, 8):
            check = self.holds if 0 <= a < 4 else self.fails
            check((4, ((a, 0 if a else 1),), ((),), ()))
            check((4, ((0 if a else 1, a),), ((),), ()))
            check((4, (), ((a,),), ()))
            check((4, (), ((), (a,)), ()))
            check((4, (), ((),), ((a, 0, -1),)))

    def test_boxes_of_looks_at_their_bounds_and_beyond(self):
        for box in range(-3, 6):
            (self.holds if 0 <= box < 3 else self.fails)((2, (), ((), (), ()), ((1, box, -1),)))

    def test_sources(self):
        tale = (5, (), ((1, 3, 0), (2,)), ((0, 0, 3),))
        for source in range(-4, 8):
            (self.holds if source in (-1, 1, 3) else self.fails)(bent_within(tale, 3, 0, (0, 0, source)))
            (self.holds if source in (-1, 2) else self.fails)(bent_within(tale, 3, 0, (0, 1, source)))
            (self.holds if source in (-1, 0, 1) else self.fails)(bent_within(tale, 3, 0, (3, 0, source)))

    def test_no_time_of_an_attempt_and_itself(self):
        for a in range(4):
            self.fails((4, ((a, a),), ((),), ()))

    def test_times_both_ways_and_round_are_times(self):
        self.holds((2, ((0, 1), (1, 0)), ((),), ()))
        self.holds((3, ((0, 1), (1, 2), (2, 0)), ((),), ()))

    def test_parts_twice(self):
        for part in (1, 3):
            for place in range(len(TALE[part])):
                twice = TALE[part][:place + 1] + TALE[part][place:]
                self.fails(bent_at(TALE, part, twice))
        for row in ((0, 0), (0, 2, 0), (0, 2, 2)):
            self.fails(bent_within(TALE, 2, 0, row))

    def test_parts_out_of_order(self):
        for part in (1, 3):
            for order in itertools.permutations(TALE[part]):
                (self.holds if order == TALE[part] else self.fails)(bent_at(TALE, part, order))

    def test_writers_stand_in_any_order(self):
        for row in itertools.permutations((0, 2, 1)):
            self.holds(bent_within(TALE, 2, 0, row))

    def test_two_looks_for_one_attempt_and_box(self):
        self.fails((3, (), ((0, 1),), ((2, 0, -1), (2, 0, 0))))
        self.fails((3, (), ((0, 1),), ((2, 0, 0), (2, 0, 1))))
        self.fails((3, (), ((0, 1),), ((2, 0, 1), (2, 0, 0))))
        self.holds((3, (), ((0, 1), (0,)), ((2, 0, 1), (2, 1, 0))))
        self.holds((3, (), ((0, 1), (0,)), ((1, 0, 0), (2, 0, 0))))

    def test_lists_for_tuples(self):
        self.fails(list(TALE))
        for part in (1, 2, 3):
            self.fails(bent_at(TALE, part, list(TALE[part])))
            for place in range(len(TALE[part])):
                self.fails(bent_within(TALE, part, place, list(TALE[part][place])))

    def test_a_part_more_or_fewer(self):
        for more in ((), 0, ((),), None):
            self.fails(TALE + (more,))
            self.fails(TALE + (more, more))
        for place in range(4):
            self.fails(TALE[:place] + TALE[place + 1:])
        for part in (1, 3):
            for place in range(len(TALE[part])):
                self.fails(bent_within(TALE, part, place, TALE[part][place] + (0,)))
                self.fails(bent_within(TALE, part, place, TALE[part][place][:-1]))
                self.fails(bent_within(TALE, part, place, TALE[part][place][:1]))

    def test_truths(self):
        self.fails((True, (), ((),), ()))
        for truth in (True, False):
            self.fails((4, ((truth, 2),), ((),), ()))
            self.fails((4, ((2, truth),), ((),), ()))
            self.fails((4, (), ((truth,),), ()))
            self.fails((4, (), ((2, truth),), ()))
            self.fails((4, (), ((0, 1), (0, 1)), ((truth, 0, -1),)))
            self.fails((4, (), ((0, 1), (0, 1)), ((2, truth, -1),)))
            self.fails((4, (), ((0, 1), (0, 1)), ((2, 0, truth),)))

    def test_each_part_of_another_kind(self):
        for part in ODD_PARTS + [31, "(0, 1)", HUGE]:
            self.fails(bent_at(TALE, 0, part))
            for place in (1, 2, 3):
                if part != ():
                    self.fails(bent_at(TALE, place, part))
                for inner in range(len(TALE[place])):
                    other = bent_within(TALE, place, inner, part)
                    self.assertIs(is_tale(other), otherwise.is_tale(other), other)
                    for innermost in range(len(TALE[place][inner])):
                        other = bent_within(TALE, place, inner, bent_at(TALE[place][inner], innermost, part))
                        self.assertIs(is_tale(other), otherwise.is_tale(other), other)

    def test_anything(self):
        for thing in ANYTHING:
            self.fails(thing)
            for many in range(1, 6):
                self.fails((thing,) * many)
            for place in range(4):
                other = bent_at(TALE, place, thing)
                self.assertIs(is_tale(other), otherwise.is_tale(other), other)

    def test_woven_tales(self):
        for tale in otherwise.woven_tales(51, 400, 30) + otherwise.woven_tales(52, 400, 4):
            self.holds(tale)

    def test_woven_tales_bent(self):
        source = random.Random(53)
        told = {True: 0, False: 0}
        for tale in otherwise.woven_tales(54, 1500, 6):
            part = source.choice([1, 2, 3])
            if tale[part]:
                place = source.randrange(len(tale[part]))
                row = list(tale[part][place])
                if row:
                    row[source.randrange(len(row))] += source.choice([-2, -1, 1, 2])
                tale = bent_within(tale, part, place, tuple(row))
            if source.random() < 0.2:
                tale = bent_at(tale, 0, tale[0] + source.choice([-1, 1]))
            self.assertIs(is_tale(tale), otherwise.is_tale(tale), tale)
            told[is_tale(tale)] += 1
        self.assertGreater(min(told.values()), 200)


class WouldTellTest(unittest.TestCase):
    def test_each_order_of_a_tale(self):
        self.assertEqual(would_tell(TALE, [0, 2, 1, 3]), [-1, 2, 0, 1, -1])
        self.assertEqual(would_tell(TALE, [3, 1, 2, 0]), [-1, -1, 1, -1, -1])
        for order in itertools.permutations(range(4)):
            self.assertEqual(would_tell(TALE, list(order)), otherwise.would_tell(TALE, order))

    def test_no_looks(self):
        self.assertEqual(would_tell(LEAST, [0]), [])

    def test_one_does_not_tell_itself(self):
        tale = (3, (), ((0, 1, 2),), ((0, 0, 1), (1, 0, -1), (2, 0, 0)))
        self.assertEqual(would_tell(tale, [0, 1, 2]), [-1, 0, 1])
        self.assertEqual(would_tell(tale, [2, 1, 0]), [1, 2, -1])
        self.assertEqual(would_tell(tale, [1, 0, 2]), [1, -1, 0])

    def test_the_last_one_along_the_order(self):
        tale = (3, (), ((0, 1),), ((2, 0, -1),))
        self.assertEqual(would_tell(tale, [0, 1, 2]), [1])
        self.assertEqual(would_tell(tale, [1, 0, 2]), [0])
        self.assertEqual(would_tell(tale, [1, 2, 0]), [1])
        self.assertEqual(would_tell(tale, [2, 1, 0]), [-1])

    def test_woven_tales(self):
        source = random.Random(55)
        for tale in otherwise.woven_tales(56, 300, 30):
            order = source.sample(range(tale[0]), tale[0])
            self.assertEqual(would_tell(tale, order), otherwise.would_tell(tale, order))
