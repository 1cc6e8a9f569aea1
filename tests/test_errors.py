import unittest

from oneglance import errors
from oneglance.desk import Desk
from oneglance.good import first_bad, good, shows_none
from oneglance.keeper import Keeper
from oneglance.texts import read_dealing

OF_A_TEXT = [errors.TooMany, errors.NoAttempt, errors.NoStep, errors.NoRow]


class ErrorsTest(unittest.TestCase):
    def test_all_refusals_are_value_errors(self):
        self.assertEqual(errors.GlanceError.__bases__, (ValueError,))

    def test_each_stands_right_under_glance_error(self):
        for error in OF_A_TEXT + [errors.NoText]:
            self.assertEqual(error.__bases__, (errors.GlanceError,))

    def test_none_stands_under_another(self):
        every = OF_A_TEXT + [errors.NoText]
        for one in every:
            for other in every:
                self.assertEqual(issubclass(one, other), one is other)

    def test_those_made_of_a_text(self):
        for error in OF_A_TEXT + [errors.GlanceError]:
            with self.assertRaises(errors.GlanceError) as caught:
                raise error("some words")
            self.assertEqual(str(caught.exception), "some words")

    def test_no_text_has_its_place(self):
        for at in (0, 7, 2000):
            with self.assertRaises(errors.GlanceError) as caught:
                raise errors.NoText(at)
            self.assertEqual(caught.exception.at, at)

    def test_places_of_two_are_their_own(self):
        one = errors.NoText(1)
        other = errors.NoText(2)
        self.assertEqual((one.at, other.at), (1, 2))


class RefusalsTest(unittest.TestCase):
    """Each refusal of the program is taken by its own class, by those it stands under, and by no other one."""

    def refused(self, error, called, *parts):
        with self.assertRaises(ValueError) as caught:
            called(*parts)
        refusal = caught.exception
        self.assertIs(type(refusal), error)
        for other in OF_A_TEXT + [errors.NoText]:
            self.assertIs(isinstance(refusal, other), other is error)
        self.assertIsInstance(refusal, errors.GlanceError)
        return refusal

    def test_too_many(self):
        log = [("begin", a) for a in range(9)]
        self.refused(errors.TooMany, good, (1, 2), (0,), log, True)
        self.refused(errors.TooMany, shows_none, (1, 2), (0,), log, True, [])
        self.refused(errors.TooMany, first_bad, (1, 2), (0,), log)

    def test_of_a_keeper(self):
        keeper = Keeper((1, 2), (0,))
        self.refused(errors.NoAttempt, keeper.take, 3)
        keeper.begin(3)
        self.refused(errors.NoAttempt, keeper.begin, 3)
        self.refused(errors.NoStep, keeper.write, 3)

    def test_of_texts_and_a_desk(self):
        desk = Desk()
        self.refused(errors.NoRow, desk.say, "now")
        desk.say("world 1 2 0")
        self.assertEqual(self.refused(errors.NoText, desk.say, "deal ( x )").at, 2)
        self.assertEqual(self.refused(errors.NoText, read_dealing, (1, 2), "( x )").at, 1)
