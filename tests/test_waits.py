import itertools
import random
import unittest

from oneglance.alone import alone
from oneglance.rows import in_row
from oneglance.tries import Tries
from oneglance.waits import all_done, shows_free, shows_never, stuck
from tests.things import ANYTHING, HUGE, ODD_PARTS, woven_run

WORLD = (2, 5)
STATE = (0, 0)
WAIT = ("wait",)
# Waits while box 0 has 0, then makes it 0 again.
TAKES = (("look", 0, 0), ("leap", 0, 2), ("put", 0, 1), ("leap", 1, 12), WAIT)
GIVES = (("set", 0, 1), ("put", 0, 0))
# Waits while box 0 has any other number than 0, then puts 1 into box 1.
LATE = (("look", 0, 0), ("leap", 0, 1), WAIT, ("set", 0, 1), ("put", 1, 0))
NEVER = (WAIT,)
NEVER_TABLE = [((), (0, 0)), ((0,), (1, 0)), ((0, 1), (0, 0))]
NEVER_DEALINGS = [GIVES, TAKES, NEVER]
FREE_TABLE = [((), (0, 0)), ((0,), (1, 0)), ((0, 1), (0, 0))]
FREE_DEALINGS = [GIVES, TAKES]


def ways(world, dealings, place):
    done, state = place
    told = [(i, alone(world, dealings[i], state)) for i in range(len(dealings)) if i not in done]
    return [(tuple(sorted(done + (i,))), one[1]) for i, one in told if one[0] == "done"]


def is_closed(world, state, dealings, table):
    return ((), state) in table and all(way in table for place in table for way in ways(world, dealings, place))


def never_otherwise(world, state, dealings, table):
    """Of a list whose tuples have the form that is told."""
    return is_closed(world, state, dealings, table) and all(len(done) < len(dealings) for done, reached in table)


def free_otherwise(world, state, dealings, table):
    some = [place for place in table if len(place[0]) < len(dealings)]
    return is_closed(world, state, dealings, table) and all(ways(world, dealings, place) for place in some)


def rows_that_go(world, state, dealings):
    """All rows of unlike dealings along which each is done, shorter ones first, with the state behind each."""
    rows = []
    for size in range(len(dealings) + 1):
        for row in itertools.permutations(range(len(dealings)), size):
            told = in_row(world, dealings, state, list(row))
            if told[0] == "done":
                rows.append((list(row), told[1]))
    return rows


def is_stuck(world, dealings, row, state):
    left = [i for i in range(len(dealings)) if i not in row]
    return left != [] and all(alone(world, dealings[i], state)[0] == "waits" for i in left)


def woven_case(source, most):
    world = source.choice([(1, 2), (2, 2), (2, 3)])
    dealings = [source.choice([TAKES, GIVES, LATE, None, None])
                for i in range(source.randint(1, most))]
    # Those that are written out above want two boxes.
    dealings = [dealing if dealing and world[0] == 2 else woven_run(source, world, 2, 6) for dealing in dealings]
    return (world, tuple(source.randrange(world[1]) for b in range(world[0])), dealings)


class AllDoneTest(unittest.TestCase):
    def test_orders(self):
        self.assertEqual(all_done(WORLD, STATE, [()]), ("all", [0]))
        self.assertEqual(all_done(WORLD, STATE, [TAKES, GIVES]), ("all", [1, 0]))
        self.assertEqual(all_done(WORLD, (1, 0), [LATE, TAKES]), ("all", [1, 0]))
        self.assertEqual(all_done(WORLD, STATE, [GIVES, LATE]), ("all", [1, 0]))

    def test_an_order_that_not_every_way_finds(self):
        self.assertEqual(all_done(WORLD, STATE, [TAKES, GIVES, TAKES, GIVES])[0], "all")
        self.assertEqual(stuck(WORLD, STATE, [TAKES, GIVES, TAKES, GIVES])[0], "stuck")

    def test_never(self):
        self.assertEqual(all_done(WORLD, STATE, [NEVER]), ("never", [((), STATE)]))
        told = all_done(WORLD, STATE, NEVER_DEALINGS)
        self.assertEqual((told[0], sorted(told[1])), ("never", sorted(NEVER_TABLE)))
        self.assertEqual(all_done(WORLD, STATE, [TAKES, TAKES, GIVES])[0], "never")

    def test_six(self):
        order = all_done(WORLD, STATE, [TAKES, TAKES, TAKES, GIVES, GIVES, GIVES])[1]
        self.assertEqual(in_row(WORLD, [TAKES] * 3 + [GIVES] * 3, STATE, order), ("done", (0, 0)))
        self.assertEqual(sorted(order), list(range(6)))
        told = all_done(WORLD, STATE, [TAKES] * 4 + [GIVES] * 2)
        self.assertEqual(told[0], "never")
        self.assertIs(shows_never(WORLD, STATE, [TAKES] * 4 + [GIVES] * 2, told[1]), True)

    def test_woven_dealings(self):
        source = random.Random(101)
        words = {"all": 0, "never": 0}
        for step in range(400):
            case = woven_case(source, 4)
            word, told = all_done(*case)
            orders = [row for row, reached in rows_that_go(*case) if len(row) == len(case[2])]
            words[word] += 1
            self.assertIs(word == "all", orders != [])
            if word == "all":
                self.assertIn(told, orders)
            else:
                self.assertTrue(never_otherwise(*case, told))
                self.assertIs(shows_never(*case, told), True)
        self.assertGreater(min(words.values()), 80)

    def test_kinds_of_what_is_told(self):
        for dealings in ([()], [NEVER]):
            told = all_done(WORLD, STATE, dealings)
            self.assertEqual([type(part) for part in (told,) + told], [tuple, str, list])
        for row in all_done(WORLD, STATE, NEVER_DEALINGS)[1]:
            self.assertEqual([type(part) for part in (row,) + row], [tuple, tuple, tuple])


class StuckTest(unittest.TestCase):
    def test_stuck(self):
        self.assertEqual(stuck(WORLD, STATE, [NEVER]), ("stuck", []))
        self.assertEqual(stuck(WORLD, STATE, [TAKES, NEVER, TAKES]), ("stuck", []))
        self.assertEqual(stuck(WORLD, STATE, NEVER_DEALINGS), ("stuck", [0, 1]))
        self.assertEqual(stuck(WORLD, STATE, [LATE, GIVES]), ("stuck", [1]))

    def test_free(self):
        self.assertEqual(stuck(WORLD, STATE, [()])[0], "free")
        told = stuck(WORLD, STATE, FREE_DEALINGS)
        self.assertEqual((told[0], sorted(told[1])), ("free", sorted(FREE_TABLE)))

    def test_a_row_of_the_fewest(self):
        # Both gifts go into one box, so where they stand side by side one of those who take is left waiting.
        self.assertEqual(len(stuck(WORLD, STATE, [TAKES, TAKES, GIVES, GIVES])[1]), 3)
        self.assertEqual(stuck(WORLD, STATE, [LATE, LATE, GIVES]), ("stuck", [2]))

    def test_woven_dealings(self):
        source = random.Random(102)
        words = {"stuck": 0, "free": 0}
        for step in range(400):
            case = woven_case(source, 4)
            world, state, dealings = case
            word, told = stuck(*case)
            words[word] += 1
            rows = [row for row, reached in rows_that_go(*case) if is_stuck(world, dealings, row, reached)]
            self.assertIs(word == "stuck", rows != [])
            if word == "stuck":
                self.assertIn(told, rows)
                self.assertEqual(len(told), min(len(row) for row in rows))
            else:
                self.assertTrue(free_otherwise(*case, told))
                self.assertIs(shows_free(*case, told), True)
        self.assertGreater(min(words.values()), 80)

    def test_kinds_of_what_is_told(self):
        for dealings in ([()], [NEVER]):
            told = stuck(WORLD, STATE, dealings)
            self.assertEqual([type(part) for part in (told,) + told], [tuple, str, list])


class UnderTriesTest(unittest.TestCase):
    """Free just where, by every weaving, all are done wherever it rests."""

    def test_where_stuck_a_weaving_leaves_some_asleep(self):
        source = random.Random(103)
        seen = 0
        while seen < 120:
            case = woven_case(source, 5)
            word, row = stuck(*case)
            if word == "stuck":
                seen += 1
                tries = Tries(*case)
                for i in row:
                    while tries.go(i) != "done":
                        pass
                for i in range(len(case[2])):
                    while tries.go(i) not in ("idle", "asleep"):
                        pass
                self.assertIs(tries.rests(), True)
                self.assertEqual(tries.order(), row)

    def test_where_free_all_are_done_wherever_it_rests(self):
        source = random.Random(104)
        seen = 0
        rested = 0
        while seen < 120:
            case = woven_case(source, 4)
            many = len(case[2])
            if many > 1 and stuck(*case)[0] == "free":
                seen += 1
                for times in range(6):
                    tries = Tries(*case, source.choice([None, 0, 1]))
                    for step in range(400):
                        if tries.rests():
                            break
                        tries.go(source.randrange(many))
                    if tries.rests():
                        rested += 1
                        self.assertEqual(sorted(tries.order()), list(range(many)))
        self.assertGreater(rested, 600)


class TablesTest(unittest.TestCase):
    """shows_never and shows_free of tables bent in each way."""

    def never(self, shown, thing, dealings=NEVER_DEALINGS, state=STATE):
        self.assertIs(shows_never(WORLD, state, dealings, thing), shown, thing)

    def free(self, shown, thing, dealings=FREE_DEALINGS, state=STATE):
        self.assertIs(shows_free(WORLD, state, dealings, thing), shown, thing)

    def test_tables(self):
        self.never(True, NEVER_TABLE)
        self.free(True, FREE_TABLE)
        self.never(False, FREE_TABLE, FREE_DEALINGS)
        self.free(False, NEVER_TABLE, NEVER_DEALINGS)

    def test_another_first_state(self):
        self.never(False, NEVER_TABLE, state=(0, 1))
        self.free(False, FREE_TABLE, state=(0, 1))

    def test_a_row_left_out(self):
        self.never(False, [])
        self.free(False, [])
        for place in range(3):
            self.never(False, NEVER_TABLE[:place] + NEVER_TABLE[place + 1:])
            self.free(False, FREE_TABLE[:place] + FREE_TABLE[place + 1:])

    def test_rows_turned_about_or_told_twice(self):
        for order in itertools.permutations(range(3)):
            self.never(True, [NEVER_TABLE[place] for place in order])
            self.free(True, [FREE_TABLE[place] for place in order])
        self.never(True, NEVER_TABLE * 2)
        self.free(True, FREE_TABLE * 3)

    def test_a_row_more(self):
        self.never(True, NEVER_TABLE + [((0, 1), (4, 4))])
        self.never(False, NEVER_TABLE + [((1,), (4, 4))])
        self.never(True, NEVER_TABLE + [((1,), (4, 4)), ((0, 1), (1, 4))])
        self.never(True, NEVER_TABLE + [((1, 2), (4, 4)), ((0, 2), (0, 3))][1:])
        self.free(True, FREE_TABLE + [((0, 1), (4, 4))])
        self.free(False, FREE_TABLE + [((1,), (4, 4))])
        self.free(True, FREE_TABLE + [((1,), (4, 4)), ((0, 1), (1, 4))])
        # One that is stuck though no way leads there.
        self.free(False, FREE_TABLE + [((0,), (0, 0))])

    def test_a_row_with_all(self):
        self.never(False, NEVER_TABLE + [((0, 1, 2), (4, 4))])
        self.never(False, NEVER_TABLE + [((0, 1, 2), (0, 0))])
        for state in itertools.product(range(5), repeat=2):
            self.free(True, FREE_TABLE + [((0, 1), state)])

    def test_each_part_of_a_row_bent(self):
        for row in NEVER_TABLE:
            bent = [list(row), row + ((),), row[:1], row[1:], (row,), (list(row[0]), row[1]), (row[0], list(row[1]))]
            bent += [(part, row[1]) for part in ODD_PARTS if part not in ((), (0,))]
            bent += [(row[0], part) for part in ODD_PARTS] + ODD_PARTS
            bent += [((i,), row[1]) for i in ODD_PARTS + [3, 200]]
            bent += [(row[0], (part, 0)) for part in ODD_PARTS + [5]]
            bent += [(row[0], (0, part)) for part in ODD_PARTS + [5]]
            bent += [(row[0], state) for state in ((), (0,), (0, 0, 0))]
            bent += [(done, row[1]) for done in ((0, 0), (1, 0), (0, 3), (0, 1, 1), (-1, 0), (0, True), (False, 1))]
            for other in bent:
                for table, check in ((NEVER_TABLE, self.never), (FREE_TABLE, self.free)):
                    check(False, table + [other])
                    check(False, [other] + table)
                    check(False, [other if same == row else same for same in table])

    def test_each_number_of_a_row_bent(self):
        for place, row in enumerate(NEVER_TABLE):
            for done in itertools.product(range(-1, 3), repeat=len(row[0])):
                for state in itertools.product(range(-1, 6), repeat=2):
                    same = (done, state) == row
                    self.never(same, NEVER_TABLE[:place] + [(done, state)] + NEVER_TABLE[place + 1:])
                    if place < 2:
                        self.free(same, FREE_TABLE[:place] + [(done, state)] + FREE_TABLE[place + 1:])

    def test_anything(self):
        for thing in ANYTHING + [tuple(NEVER_TABLE), [NEVER_TABLE], HUGE]:
            for dealings in (NEVER_DEALINGS, FREE_DEALINGS, [()]):
                for other in (thing, [thing], NEVER_TABLE + [thing]):
                    self.never(False, other, dealings)
                    self.free(False, other, dealings)

    def test_never_both(self):
        source = random.Random(105)
        for step in range(300):
            world, state, dealings = woven_case(source, 3)
            places = [((), state)]
            for place in places:
                places += [way for way in ways(world, dealings, place) if way not in places]
            some = [place for place in places if len(place[0]) < len(dealings)]
            all_there = len(some) < len(places)
            self.assertIs(shows_never(world, state, dealings, places), not all_there)
            self.assertIs(shows_never(world, state, dealings, some), not all_there)
            self.assertIs(all_done(world, state, dealings)[0] == "never", not all_there)
            free = stuck(world, state, dealings)[0] == "free"
            self.assertIs(shows_free(world, state, dealings, places), free)

    def test_woven_tables(self):
        source = random.Random(106)
        told = {}
        for step in range(900):
            case = woven_case(source, 3)
            world, state, dealings = case
            table = [((), state)]
            for place in table:
                table += [way for way in ways(world, dealings, place) if way not in table]
            if source.random() < 0.3:
                table.pop(source.randrange(len(table)))
            for more in range(source.randrange(3)):
                done = tuple(i for i in range(len(dealings)) if source.random() < 0.6)
                table.append((done, tuple(source.randrange(world[1]) for b in range(world[0]))))
            source.shuffle(table)
            never, free = shows_never(*case, table), shows_free(*case, table)
            self.assertIs(never, never_otherwise(*case, table), (case, table))
            self.assertIs(free, free_otherwise(*case, table), (case, table))
            told[never, free] = told.get((never, free), 0) + 1
        self.assertEqual(sorted(told), [(False, False), (False, True), (True, False)])
        self.assertGreater(min(told.values()), 80)
