import itertools
import random
import unittest

from oneglance.orders import asked, behind, is_order, moments
from tests import otherwise
from tests.things import HUGE, woven_logs

WORLD = (3, 7)
STATE = (4, 5, 0)
# 8 puts for 2 to see and is done last; 5 falls with a put; 1 stays open with a put and looks at what 2 has put.
LOG = [("begin", 8), ("begin", 2), ("begin", 5), ("put", 5, 0, 6), ("put", 8, 1, 3), ("look", 2, 1, 3),
       ("put", 2, 0, 1), ("fall", 5), ("done", 2), ("begin", 1), ("look", 1, 0, 1), ("put", 1, 2, 6), ("done", 8)]


class AskedTest(unittest.TestCase):
    def test_all_or_the_done_ones(self):
        self.assertEqual(asked(LOG, True), [1, 2, 5, 8])
        self.assertEqual(asked(LOG, False), [2, 8])

    def test_none(self):
        self.assertEqual(asked([], True), [])
        self.assertEqual(asked([], False), [])
        self.assertEqual(asked([("begin", 3), ("begin", 1), ("fall", 3)], False), [])
        self.assertEqual(asked([("begin", 3), ("begin", 1), ("fall", 3)], True), [1, 3])

    def test_woven_logs(self):
        for log in woven_logs(31, WORLD, STATE, 200, 8, 40):
            for every in (True, False):
                self.assertEqual(asked(log, every), otherwise.asked(log, every))


class IsOrderTest(unittest.TestCase):
    def holds(self, log, order, every=True, state=STATE):
        self.assertIs(is_order(WORLD, state, log, every, order), True, order)

    def fails(self, log, order, every=True, state=STATE):
        self.assertIs(is_order(WORLD, state, log, every, order), False, order)

    def test_all(self):
        self.holds(LOG, [8, 2, 5, 1])
        self.holds(LOG, [5, 8, 2, 1])
        self.holds(LOG, [8, 5, 2, 1])

    def test_done_ones_alone(self):
        self.holds(LOG, [8, 2], False)
        self.fails(LOG, [2, 8], False)
        self.fails(LOG, [8, 2, 5, 1], False)
        self.fails(LOG, [8, 2], True)

    def test_looks_must_tell_the_numbers(self):
        self.fails(LOG, [2, 8, 5, 1])
        self.fails(LOG, [5, 2, 8, 1])
        self.holds(LOG, [2, 8, 5, 1], True, (4, 3, 0))
        self.fails(LOG, [2, 8, 5, 1], True, (4, 2, 0))

    def test_time_must_be_kept(self):
        self.fails(LOG, [8, 2, 1, 5])
        self.fails(LOG, [8, 1, 2, 5])
        empty = [("begin", 1), ("done", 1), ("begin", 0), ("done", 0)]
        self.holds(empty, [1, 0])
        self.fails(empty, [0, 1])

    def test_time_of_one_that_fell_is_kept_among_all(self):
        log = [("begin", 1), ("fall", 1), ("begin", 0), ("done", 0)]
        self.holds(log, [1, 0])
        self.fails(log, [0, 1])
        self.holds(log, [0], False)

    def test_those_at_one_time_may_stand_either_way(self):
        log = [("begin", 1), ("begin", 0), ("done", 1), ("done", 0)]
        self.holds(log, [1, 0])
        self.holds(log, [0, 1])

    def test_puts_of_done_ones_alone_count(self):
        for end, check in ((("done", 1), self.fails), (("fall", 1), self.holds), (("begin", 9), self.holds)):
            log = [("begin", 0), ("begin", 1), ("put", 1, 0, 6), ("look", 0, 0, 4), end]
            others = [9] if end == ("begin", 9) else []
            check(log, [1, 0] + others)
            self.holds(log, [0, 1] + others)

    def test_fallen_and_open_ones_must_have_seen_one_moment(self):
        for end in ("fall", "done"):
            log = [("begin", 0), ("look", 0, 0, 4), ("look", 0, 1, 6), (end, 0)]
            self.fails(log, [0])
            self.fails(log[:3], [0])
            self.holds(log, [0], True, (4, 6, 0))
        self.holds([("begin", 0), ("look", 0, 0, 1), ("fall", 0)], [], False)

    def test_two_numbers_of_one_box_are_no_moment(self):
        log = [("begin", 0), ("look", 0, 0, 4), ("begin", 1), ("put", 1, 0, 3), ("done", 1), ("look", 0, 0, 3)]
        self.fails(log, [0, 1])
        self.fails(log, [1, 0])
        self.holds(log, [1], False)

    def test_own_puts_are_no_looks_at_the_state(self):
        self.holds([("begin", 0), ("put", 0, 0, 3), ("look", 0, 0, 3), ("done", 0)], [0])

    def test_later_puts_go_over_earlier_ones(self):
        log = [("begin", 0), ("begin", 1), ("begin", 2), ("put", 0, 0, 1), ("put", 1, 0, 2), ("look", 2, 0, 1),
               ("done", 0), ("done", 1)]
        self.holds(log, [1, 0, 2])
        self.holds(log, [0, 2, 1])
        self.fails(log, [0, 1, 2])

    def test_one_left_out(self):
        for left_out in (8, 2, 5, 1):
            self.fails(LOG, [a for a in [8, 2, 5, 1] if a != left_out])
        self.fails(LOG, [8], False)

    def test_one_twice(self):
        for twice in (8, 2, 5, 1):
            self.fails(LOG, [8, 2, 5, 1] + [twice])
            self.fails(LOG, [twice] + [8, 2, 5, 1])
        for twice in (8, 2, 5):
            self.fails(LOG, [8, 2, 5] + [twice])

    def test_a_strange_number(self):
        for strange in (0, 3, 200, -1, HUGE, -HUGE):
            self.fails(LOG, [8, 2, 5, 1, strange])
            self.fails(LOG, [strange, 8, 2, 5, 1])
            self.fails(LOG, [8, 2, 5, strange])

    def test_none_at_all(self):
        self.fails(LOG, [])
        self.fails(LOG, [], False)
        self.holds([], [])
        self.holds([], [], False)
        self.holds([("begin", 0)], [], False)
        self.fails([], [0])

    def test_a_truth_is_no_attempt(self):
        log = [("begin", 1), ("begin", 0)]
        self.holds(log, [1, 0])
        self.fails(log, [True, 0])
        self.fails(log, [1, False])

    def test_two_hundred_attempts(self):
        log = [event for a in range(200) for event in (("begin", a), ("look", a, 0, (4 + a) % 7),
                                                      ("put", a, 0, (5 + a) % 7), ("done", a))]
        self.holds(log, list(range(200)))
        self.holds(log, list(range(200)), False)
        self.fails(log, [1, 0] + list(range(2, 200)))
        self.fails(log, list(range(199)))

    def test_woven_logs(self):
        source = random.Random(32)
        world = (2, 2)
        state = (0, 1)
        told = {True: 0, False: 0}
        for log in woven_logs(33, world, state, 250, 4, 24):
            for every in (True, False):
                ones = otherwise.asked(log, every)
                orders = [list(order) for order in itertools.permutations(ones)]
                orders += [[source.choice(ones + [1]) for a in range(source.randint(0, 5))] for step in range(3)]
                for order in orders:
                    answer = is_order(world, state, log, every, order)
                    self.assertIs(answer, otherwise.is_order(state, log, every, order))
                    told[answer] += 1
        self.assertGreater(min(told.values()), 300)


class MomentsTest(unittest.TestCase):
    def test_behind(self):
        self.assertEqual(behind(WORLD, STATE, LOG, []), STATE)
        self.assertEqual(behind(WORLD, STATE, LOG, [8]), (4, 3, 0))
        self.assertEqual(behind(WORLD, STATE, LOG, [2]), (1, 5, 0))
        self.assertEqual(behind(WORLD, STATE, LOG, [2, 8]), (1, 3, 0))

    def test_last_one_goes_over_those_ahead(self):
        log = [("begin", 0), ("put", 0, 0, 1), ("put", 0, 1, 1), ("begin", 1), ("put", 1, 0, 2), ("put", 1, 0, 3),
               ("done", 1), ("done", 0)]
        self.assertEqual(behind(WORLD, STATE, log, [0, 1]), (3, 1, 0))
        self.assertEqual(behind(WORLD, STATE, log, [1, 0]), (1, 1, 0))

    def test_behind_need_not_be_good(self):
        self.assertEqual(behind(WORLD, (0, 0, 0), LOG, [2, 8]), (1, 3, 0))

    def test_moments(self):
        self.assertEqual(moments(WORLD, STATE, LOG, [8, 2], 2), [1, 2])
        self.assertEqual(moments(WORLD, STATE, LOG, [8, 2], 1), [2])
        self.assertEqual(moments(WORLD, STATE, LOG, [2, 8], 1), [1, 2])
        self.assertEqual(moments(WORLD, STATE, LOG, [8], 1), [])

    def test_moments_of_one_that_looked_nowhere(self):
        self.assertEqual(moments(WORLD, STATE, LOG, [8, 2], 8), [0, 1, 2])
        self.assertEqual(moments(WORLD, STATE, LOG, [8, 2], 5), [0, 1, 2])
        self.assertEqual(moments(WORLD, STATE, LOG, [], 5), [0])

    def test_moments_of_none_done(self):
        self.assertEqual(moments(WORLD, STATE, LOG, [], 2), [])
        self.assertEqual(moments(WORLD, (4, 3, 0), LOG, [], 2), [0])

    def test_moments_with_a_gap(self):
        log = [("begin", a) for a in range(4)]
        log += [("put", 0, 0, 1), ("put", 1, 0, 4), ("put", 2, 0, 2), ("look", 3, 0, 4)]
        log += [("done", 0), ("done", 1), ("done", 2)]
        self.assertEqual(moments(WORLD, STATE, log, [0, 1, 2], 3), [0, 2])
        self.assertEqual(moments(WORLD, STATE, log, [1, 0, 2], 3), [0, 1])

    def test_all_looks_must_fit_one_moment(self):
        log = [("begin", 0), ("begin", 1), ("look", 0, 0, 4), ("put", 1, 0, 1), ("put", 1, 1, 1), ("done", 1),
               ("look", 0, 1, 1)]
        self.assertEqual(moments(WORLD, STATE, log, [1], 0), [])

    def test_kinds_of_what_is_told(self):
        self.assertIs(type(behind(WORLD, STATE, LOG, [2, 8])), tuple)
        self.assertIs(type(moments(WORLD, STATE, LOG, [2, 8], 1)), list)
        self.assertIs(type(asked(LOG, True)), list)

    def test_woven_logs(self):
        source = random.Random(34)
        world = (2, 3)
        state = (0, 1)
        for log in woven_logs(35, world, state, 300, 6, 40):
            done = otherwise.asked(log, False)
            some = source.sample(done, source.randint(0, len(done)))
            self.assertEqual(behind(world, state, log, some), otherwise.behind(state, log, some))
            states = [otherwise.behind(state, log, some[:k]) for k in range(len(some) + 1)]
            for a in otherwise.attempts(log):
                fitting = [k for k, there in enumerate(states) if otherwise.fits(log, a, there)]
                self.assertEqual(moments(world, state, log, some, a), fitting)
