import itertools
import random
import unittest

from oneglance.musts import is_ring, is_tale_order, musts, order_or_ring
from oneglance.tales import would_tell
from tests import otherwise_tales as otherwise
from tests.things import HUGE

LEAST = (1, (), ((),), ())
TALE = (4, ((0, 1), (0, 2), (1, 3)), ((0, 2, 1), (), (3,)), ((0, 1, -1), (1, 0, 2), (2, 0, 0), (3, 0, 1), (3, 2, -1)))
# 0 and 1 both look at what was there at first, and both write there: a lost update.
LOST = (2, (), ((0, 1),), ((0, 0, -1), (1, 0, -1)))
THREE = (5, ((4, 1),), ((0, 1), (1, 3), (3, 0)), ())


def rows_of(many):
    """All rows of unlike attempts, none at all and all of them among these."""
    return [list(row) for size in range(many + 1) for row in itertools.permutations(range(many), size)]


class MustsTest(unittest.TestCase):
    def has(self, tale, pairs):
        self.assertEqual(musts(tale), pairs)

    def test_none(self):
        self.has(LEAST, [])
        self.has((3, (), ((1,), ()), ((0, 1, -1), (1, 1, -1))), [])

    def test_times(self):
        self.has((3, ((0, 1), (1, 0), (2, 1)), ((),), ()), [(0, 1), (1, 0), (2, 1)])

    def test_each_writer_and_the_next_alone(self):
        self.has((4, (), ((3, 1, 0),), ()), [(1, 0), (3, 1)])
        self.has((4, (), ((3, 1), (0, 3)), ()), [(0, 3), (3, 1)])

    def test_source_and_its_looker(self):
        self.has((3, (), ((1,),), ((2, 0, 1),)), [(1, 2)])

    def test_looker_and_the_next_writer(self):
        self.has((4, (), ((1, 0, 2),), ((3, 0, 1),)), [(0, 2), (1, 0), (1, 3), (3, 0)])
        self.has((4, (), ((1, 0, 2),), ((3, 0, -1),)), [(0, 2), (1, 0), (3, 1)])
        self.has((4, (), ((1, 0, 2),), ((3, 0, 2),)), [(0, 2), (1, 0), (2, 3)])

    def test_looker_that_is_the_next_writer_itself(self):
        self.has((3, (), ((1, 2, 0),), ((2, 0, 1),)), [(1, 2), (2, 0)])
        self.has((3, (), ((1, 2, 0),), ((1, 0, -1),)), [(1, 2), (2, 0)])

    def test_looker_that_wrote_ahead_of_the_source(self):
        self.has((3, (), ((1, 2, 0),), ((1, 0, 2),)), [(1, 0), (1, 2), (2, 0), (2, 1)])

    def test_rising_and_each_once(self):
        self.has((3, ((0, 1), (1, 2)), ((0, 1, 2), (0, 1)), ((1, 0, 0), (1, 1, 0))), [(0, 1), (1, 2)])
        self.has(TALE, [(0, 1), (0, 2), (1, 3), (2, 1)])

    def test_kinds_of_what_is_told(self):
        told = musts(TALE)
        self.assertIs(type(told), list)
        self.assertEqual({type(pair) for pair in told}, {tuple})

    def test_woven_tales(self):
        for tale in otherwise.woven_tales(61, 500, 30) + otherwise.woven_tales(62, 500, 5):
            self.assertEqual(musts(tale), otherwise.musts(tale))


class OrderOrRingTest(unittest.TestCase):
    def check(self, tale):
        """What is told holds by both tellings, and the other is not there; tells the word."""
        told = order_or_ring(tale)
        self.assertEqual([type(part) for part in (told,) + told], [tuple, str, list])
        word, some = told
        self.assertIn(word, ("order", "ring"))
        self.assertIs(otherwise.is_order(tale, some), word == "order", (tale, some))
        self.assertIs(otherwise.is_ring(tale, some), word == "ring", (tale, some))
        self.assertIs(is_tale_order(tale, some), word == "order")
        self.assertIs(is_ring(tale, some), word == "ring")
        return word

    def test_orders(self):
        self.assertEqual(order_or_ring(LEAST), ("order", [0]))
        self.assertEqual(order_or_ring(TALE), ("order", [0, 2, 1, 3]))
        self.assertEqual(self.check((30, (), ((),), ())), "order")

    def test_rings(self):
        self.assertEqual(self.check(LOST), "ring")
        self.assertEqual(self.check((2, ((0, 1), (1, 0)), ((),), ())), "ring")
        self.assertEqual(sorted(order_or_ring(THREE)[1]), [0, 1, 3])
        self.assertEqual(self.check(THREE), "ring")

    def test_a_ring_behind_others_and_ahead_of_others(self):
        times = ((0, 1), (1, 2), (2, 3), (3, 4), (4, 2), (4, 5), (5, 6))
        self.assertEqual(sorted(order_or_ring((7, times, ((),), ()))[1]), [2, 3, 4])
        self.assertEqual(self.check((7, times, ((),), ())), "ring")

    def test_a_ring_of_thirty(self):
        times = tuple((a, a + 1) for a in range(29)) + ((29, 0),)
        self.assertEqual(self.check((30, times, ((),), ())), "ring")
        self.assertEqual(len(order_or_ring((30, times, ((),), ()))[1]), 30)
        self.assertEqual(order_or_ring((30, times[:-1], ((),), ())), ("order", list(range(30))))

    def test_woven_tales(self):
        told = {"order": 0, "ring": 0}
        for tale in otherwise.woven_tales(63, 400, 30) + otherwise.woven_tales(64, 400, 6):
            told[self.check(tale)] += 1
        self.assertGreater(min(told.values()), 100)

    def test_just_these_keep_times_and_writers_and_would_tell_what_was_told(self):
        for tale in otherwise.woven_tales(65, 250, 5):
            kept = [list(order) for order in itertools.permutations(range(tale[0]))
                    if otherwise.keeps_all(tale, list(order))]
            self.assertIs(order_or_ring(tale)[0] == "order", kept != [])
            sources = [look[2] for look in tale[3]]
            for order in itertools.permutations(range(tale[0])):
                self.assertIs(is_tale_order(tale, list(order)), list(order) in kept)
            for order in kept:
                self.assertEqual(would_tell(tale, order), sources)


class IsTaleOrderTest(unittest.TestCase):
    def test_all_rows(self):
        for row in rows_of(4):
            self.assertIs(is_tale_order(TALE, row), row == [0, 2, 1, 3])
            self.assertIs(is_tale_order(LOST, row), False)

    def test_more_than_one_order(self):
        tale = (3, ((0, 2),), ((),), ())
        orders = [row for row in rows_of(3) if is_tale_order(tale, row)]
        self.assertEqual(orders, [[0, 1, 2], [0, 2, 1], [1, 0, 2]])

    def test_none_one_left_out_one_twice_strange_ones(self):
        order = [0, 2, 1, 3]
        self.assertIs(is_tale_order(TALE, []), False)
        for place in range(4):
            self.assertIs(is_tale_order(TALE, order[:place] + order[place + 1:]), False)
            for a in (0, 1, 2, 3, 4, -1, HUGE, -HUGE):
                bent = order[:place] + [a] + order[place + 1:]
                self.assertIs(is_tale_order(TALE, bent), bent == order)
                self.assertIs(is_tale_order(TALE, order[:place] + [a] + order[place:]), False)
                self.assertIs(is_tale_order(TALE, order + [a]), False)

    def test_truths_are_no_attempts(self):
        self.assertIs(is_tale_order((2, (), ((),), ()), [0, 1]), True)
        self.assertIs(is_tale_order((2, (), ((),), ()), [0, True]), False)
        self.assertIs(is_tale_order((2, (), ((),), ()), [False, 1]), False)


class IsRingTest(unittest.TestCase):
    def test_rings_from_each_of_theirs(self):
        for row in rows_of(5):
            self.assertIs(is_ring(THREE, row), row in ([0, 1, 3], [1, 3, 0], [3, 0, 1]), row)
        for row in rows_of(2):
            self.assertIs(is_ring(LOST, row), len(row) == 2)
        for row in rows_of(4):
            self.assertIs(is_ring(TALE, row), False)

    def test_fewer_than_two(self):
        for tale in (LEAST, LOST, TALE, THREE):
            self.assertIs(is_ring(tale, []), False)
            for a in range(-1, 6):
                self.assertIs(is_ring(tale, [a]), False)

    def test_one_left_out_one_twice_strange_ones(self):
        for place in range(3):
            ring = [0, 1, 3]
            self.assertIs(is_ring(THREE, ring[:place] + ring[place + 1:]), False)
            for a in (0, 1, 2, 3, 4, 5, -1, HUGE, -HUGE):
                bent = ring[:place] + [a] + ring[place + 1:]
                self.assertIs(is_ring(THREE, bent), bent == ring)
                self.assertIs(is_ring(THREE, ring[:place] + [a] + ring[place:]), False)

    def test_a_ring_gone_round_twice(self):
        self.assertIs(is_ring(THREE, [0, 1, 3, 0, 1, 3]), False)
        self.assertIs(is_ring(LOST, [0, 1, 0, 1]), False)

    def test_truths_are_no_attempts(self):
        self.assertIs(is_ring(LOST, [0, 1]), True)
        self.assertIs(is_ring(LOST, [0, True]), False)
        self.assertIs(is_ring(LOST, [False, 1]), False)

    def test_woven_tales(self):
        source = random.Random(66)
        for tale in otherwise.woven_tales(67, 80, 4):
            for row in rows_of(tale[0]):
                self.assertIs(is_ring(tale, row), otherwise.is_ring(tale, row))
        for tale in otherwise.woven_tales(68, 300, 30):
            row = [source.randrange(-1, 31) for step in range(source.randrange(6))]
            self.assertIs(is_ring(tale, row), otherwise.is_ring(tale, row))
