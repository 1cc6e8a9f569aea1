"""What is handed in stays as it was, and what is told is the asker's own."""

import copy
import unittest

from oneglance.alone import alone, footprint
from oneglance.dealings import deeds_in, is_dealing
from oneglance.desk import Desk
from oneglance.good import first_bad, good, shows_none
from oneglance.keeper import Keeper
from oneglance.logs import ahead, attempts, end_of, is_log, outer_looks, puts_of
from oneglance.musts import is_ring, is_tale_order, musts, order_or_ring
from oneglance.orders import asked, behind, is_order, moments
from oneglance.rows import in_row
from oneglance.starving import starver
from oneglance.tales import is_tale, would_tell
from oneglance.texts import dealing_text, read_dealing
from oneglance.tries import Tries
from oneglance.waits import all_done, shows_free, shows_never, stuck
from oneglance.wholes import is_whole
from oneglance.worlds import is_state, is_world
from tests.things import ANYTHING, HUGE, woven_dealings, woven_logs

WORLD = (3, 7)
STATE = (4, 5, 0)
WAIT = ("wait",)
LOOKS_AND_WAITS = (("look", 0, 2), ("look", 0, 0), WAIT)
GOOD_LOG = [("begin", 2), ("look", 2, 0, 4), ("put", 2, 1, 3), ("put", 2, 0, 1), ("done", 2), ("begin", 0),
            ("look", 0, 1, 3), ("fall", 0)]
BAD_LOG = GOOD_LOG + [("begin", 1), ("look", 1, 1, 5), ("done", 1)]


def told_of_logs(log):
    """All that is told of a log, each time asked anew."""
    some = asked(log, False)
    told = [attempts(log), ahead(log), asked(log, True), some, behind(WORLD, STATE, log, some)]
    for a in attempts(log):
        told += [end_of(log, a), outer_looks(log, a), puts_of(log, a), moments(WORLD, STATE, log, some, a)]
    for every in (True, False):
        told += [good(WORLD, STATE, log, every), is_order(WORLD, STATE, log, every, some)]
        told.append(shows_none(WORLD, STATE, log, every, good(WORLD, STATE, log, every)[1]))
    return told + [first_bad(WORLD, STATE, log), is_log(WORLD, log)]


TALES = [(1, (), ((),), ()), (3, ((0, 1),), ((1, 0),), ((2, 0, 0),)), (3, ((0, 1),), ((0, 1),), ((2, 0, 0),)),
         (2, (), ((0, 1),), ((0, 0, -1), (1, 0, -1)))]


def told_of_tales(tale):
    """All that is told of a tale, each time asked anew."""
    every = list(range(tale[0]))
    told = [musts(tale), order_or_ring(tale), would_tell(tale, every)]
    return told + [is_tale(tale), is_tale_order(tale, every), is_ring(tale, every)]


def told_of_keeper(keeper):
    return [keeper.log(), keeper.order(), keeper.now(), keeper.clock()] + [keeper.mark(b) for b in range(3)]


def told_of_tries(tries):
    return [tries.log(), tries.order(), tries.now(), tries.rests(), tries.falls(0), tries.hands(0)]


COPIES = (("look", 0, 2), ("put", 1, 0))
ROWS = [[()], [LOOKS_AND_WAITS], [COPIES, LOOKS_AND_WAITS], [COPIES, COPIES], [(), COPIES, LOOKS_AND_WAITS]]


def told_of_rows(dealings):
    """All that is told of dealings that go on beside one another, each time asked anew."""
    every, left = all_done(WORLD, STATE, dealings), stuck(WORLD, STATE, dealings)
    told = [every, left, shows_never(WORLD, STATE, dealings, every[1]), shows_free(WORLD, STATE, dealings, left[1])]
    return told + [starver(WORLD, STATE, dealings, 0, 1, 9), in_row(WORLD, dealings, STATE, [0])]


def lists_in(told):
    if isinstance(told, list):
        return [told] + [inner for part in told for inner in lists_in(part)]
    if isinstance(told, tuple):
        return [inner for part in told for inner in lists_in(part)]
    return []


class WholeTest(unittest.TestCase):
    def test_whole_numbers(self):
        for number in (0, 1, -1, 10 ** 60 - 1, -HUGE):
            self.assertIs(is_whole(number), True)

    def test_other_things(self):
        for thing in (True, False, None, "", "1", (), (1,), [], [1]):
            self.assertIs(is_whole(thing), False)


class HandedInTest(unittest.TestCase):
    def test_anything_stays_as_it_was(self):
        things = copy.deepcopy(ANYTHING) + [[3, 7], [WAIT], (["wait"],), [4, 5, 0], (("try", [WAIT], [WAIT]),)]
        before = repr(things)
        for thing in things:
            is_world(thing)
            is_state(WORLD, thing)
            is_dealing(WORLD, thing)
            is_log(WORLD, thing)
            is_tale(thing)
            shows_none(WORLD, STATE, BAD_LOG, True, thing)
            shows_never(WORLD, STATE, [LOOKS_AND_WAITS], thing)
            shows_free(WORLD, STATE, [COPIES], thing)
        self.assertEqual(repr(things), before)

    def test_dealings_and_states_stay_as_they_were(self):
        for dealing in woven_dealings(6, WORLD, 100):
            before = repr((WORLD, dealing, STATE))
            for told in (alone, footprint):
                told(WORLD, dealing, STATE)
            deeds_in(dealing)
            is_dealing(WORLD, dealing)
            self.assertEqual(repr((WORLD, dealing, STATE)), before)

    def test_logs_stay_as_they_were(self):
        for log in woven_logs(7, WORLD, STATE, 100) + [GOOD_LOG, BAD_LOG]:
            before = repr(log)
            told_of_logs(log)
            self.assertEqual(repr(log), before)

    def test_orders_tables_and_rows_stay_as_they_were(self):
        order = [2, 0]
        table = [((0,), STATE), ((), STATE)]
        dealings = [LOOKS_AND_WAITS, ()]
        is_order(WORLD, STATE, GOOD_LOG, True, order)
        behind(WORLD, STATE, GOOD_LOG, order)
        moments(WORLD, STATE, GOOD_LOG, order, 0)
        shows_none(WORLD, STATE, BAD_LOG, True, table)
        in_row(WORLD, dealings, STATE, order[1:])
        self.assertEqual(order, [2, 0])
        self.assertEqual(table, [((0,), STATE), ((), STATE)])
        self.assertEqual(dealings, [LOOKS_AND_WAITS, ()])

    def test_orders_and_rings_of_tales_stay_as_they_were(self):
        for tale in TALES:
            for order in ([0, 1, 2][:tale[0]], [2, 1, 0][-tale[0]:]):
                before = list(order)
                would_tell(tale, order)
                is_tale_order(tale, order)
                is_ring(tale, order)
                self.assertEqual(order, before)

    def test_dealings_to_be_tried_stay_as_they_were_and_are_not_kept(self):
        dealings = [LOOKS_AND_WAITS, COPIES, ()]
        kept = list(dealings)
        tries = Tries(WORLD, STATE, dealings)
        for i in (0, 1, 2) * 3:
            tries.go(i)
        self.assertEqual(dealings, kept)
        dealings.clear()
        dealings.append((WAIT,))
        for i in (0, 1, 2) * 3:
            tries.go(i)
        self.assertEqual((tries.order(), tries.now()), ([2, 1], (4, 0, 0)))

    def test_dealings_and_tables_of_waits_stay_as_they_were(self):
        for dealings in ROWS:
            kept = list(dealings)
            told = told_of_rows(dealings)
            self.assertEqual(dealings, kept)
            for table in (told[0][1], told[1][1]):
                before = list(table)
                shows_never(WORLD, STATE, dealings, table)
                shows_free(WORLD, STATE, dealings, table)
                self.assertEqual(table, before)

    def test_dealings_written_stay_as_they_were(self):
        for dealing in woven_dealings(8, WORLD, 100):
            before = repr(dealing)
            text = dealing_text(dealing)
            self.assertEqual((repr(dealing), dealing_text(dealing)), (before, text))
            if is_dealing(WORLD, dealing):
                self.assertEqual(read_dealing(WORLD, text), read_dealing(WORLD, text))

    def test_what_is_done_to_a_log_later_changes_nothing_that_was_told(self):
        log = list(GOOD_LOG)
        told = told_of_logs(log)
        kept = copy.deepcopy(told)
        log.extend([("begin", 7), ("begin", 9), ("look", 7, 0, 0)])
        log[0] = None
        self.assertEqual(told, kept)

    def test_what_is_done_to_a_thing_later_changes_no_answer(self):
        thing = [3, 7]
        self.assertIs(is_world(tuple(thing)), True)
        thing.append(9)
        self.assertIs(is_world(tuple(thing)), False)
        self.assertIs(is_world((3, 7)), True)


class ToldTest(unittest.TestCase):
    def test_a_changed_list_of_boxes_changes_nothing_later(self):
        dealing = (("look", 0, 2), ("look", 0, 0), WAIT)
        first = alone(WORLD, dealing, STATE)
        first[1].append(9)
        second = alone(WORLD, dealing, STATE)
        self.assertEqual(second, ("waits", [0, 2]))
        second[1].clear()
        self.assertEqual(footprint(WORLD, dealing, STATE), ([0, 2], []))

    def test_a_changed_footprint_changes_nothing_later(self):
        for dealing in ((), (WAIT,), (("look", 0, 2), ("put", 1, 0)), (("look", 0, 2), ("put", 1, 0), WAIT)):
            first = footprint(WORLD, dealing, STATE)
            kept = copy.deepcopy(first)
            first[0].append(9)
            first[1].append((9, 9))
            self.assertEqual(footprint(WORLD, dealing, STATE), kept)

    def test_no_two_lists_told_are_one(self):
        for dealing in ((), (WAIT,), (("look", 0, 2), ("put", 1, 0))):
            first = footprint(WORLD, dealing, STATE)
            second = footprint(WORLD, dealing, STATE)
            lists = [first[0], first[1], second[0], second[1]]
            self.assertEqual(len({id(told) for told in lists}), 4)
        self.assertIsNot(alone(WORLD, (WAIT,), STATE)[1], alone(WORLD, (WAIT,), STATE)[1])

    def test_a_changed_list_of_a_row_changes_nothing_later(self):
        dealings = [(), LOOKS_AND_WAITS]
        in_row(WORLD, dealings, STATE, [0, 1])[2].append(9)
        self.assertEqual(in_row(WORLD, dealings, STATE, [0, 1]), ("waits", 1, [0, 2]))

    def test_changed_lists_of_a_log_change_nothing_later(self):
        for log in (GOOD_LOG, BAD_LOG, []):
            kept = copy.deepcopy(told_of_logs(log))
            for told in lists_in(told_of_logs(log)):
                told.append(9)
                told.reverse()
            self.assertEqual(told_of_logs(log), kept)

    def test_no_two_lists_told_of_a_log_are_one(self):
        for log in (GOOD_LOG, BAD_LOG, []):
            lists = lists_in(told_of_logs(log)) + lists_in(told_of_logs(log)) + [log]
            self.assertEqual(len({id(told) for told in lists}), len(lists))

    def test_changed_lists_of_a_tale_change_nothing_later(self):
        for tale in TALES:
            self.owns_its_lists(tale, told_of_tales)

    def test_changed_lists_of_waits_and_starving_change_nothing_later(self):
        for dealings in ROWS:
            self.owns_its_lists(dealings, told_of_rows)

    def test_what_came_later_changes_none_that_was_told_of_dealings(self):
        for dealings in ROWS:
            handed = list(dealings)
            told = told_of_rows(handed)
            kept = copy.deepcopy(told)
            handed.clear()
            handed.append((WAIT,))
            told_of_rows(handed)
            self.assertEqual(told, kept)

    def test_a_desk_tells_the_same_anew(self):
        rows = ["world 3 7 4 5 0", "deal " + dealing_text(COPIES), "try -", "go 0", "now", "order", "all", "stuck"]
        self.assertEqual([Desk().say(rows[0])] * 2, ["ok"] * 2)
        desks = [Desk(), Desk()]
        for row in rows:
            self.assertEqual(desks[0].say(row), desks[1].say(row))

    def owns_its_lists(self, thing, tell):
        """What was told is changed by the asker, and asked again; tells what was told, kept as it was."""
        kept = copy.deepcopy(tell(thing))
        lists = lists_in(tell(thing)) + lists_in(tell(thing))
        self.assertEqual(len({id(told) for told in lists}), len(lists))
        for told in lists:
            told.append(9)
            told.reverse()
        self.assertEqual(tell(thing), kept)
        return kept

    def test_changed_lists_of_a_keeper_change_nothing_later(self):
        keeper = Keeper(WORLD, STATE)
        calls = [(keeper.begin, 1), (keeper.begin, 2), (keeper.look, 1, 0), (keeper.put, 2, 0, 1),
                 (keeper.put, 2, 1, 1), (keeper.take, 2), (keeper.write, 2), (keeper.write, 2), (keeper.fall, 1)]
        told = []
        for called, *rest in calls:
            called(*rest)
            told.append((told_of_keeper(keeper), self.owns_its_lists(keeper, told_of_keeper)))
        for one, kept in told:
            # None that was told changed by what came later.
            self.assertEqual(one, kept)

    def test_changed_lists_of_tries_change_nothing_later(self):
        tries = Tries(WORLD, STATE, [COPIES, LOOKS_AND_WAITS], 1)
        told = []
        for i in (0, 1, 0, 1, 0, 1, 0, 1, 0, 1):
            tries.go(i)
            told.append((told_of_tries(tries), self.owns_its_lists(tries, told_of_tries)))
        self.assertEqual(tries.order(), [0])
        for one, kept in told:
            self.assertEqual(one, kept)

    def test_a_later_telling_changes_none_that_was_told(self):
        first = footprint(WORLD, (("look", 0, 2), ("put", 1, 0)), STATE)
        footprint(WORLD, (("look", 0, 1), ("put", 2, 0)), STATE)
        alone(WORLD, (("look", 0, 0), WAIT), STATE)
        self.assertEqual(first, ([2], [(1, 0)]))
