import unittest

from oneglance import errors

OF_A_TEXT = [errors.TooMany, errors.NoAttempt, errors.NoStep, errors.NoRow]


class ErrorsTest(unittest.TestCase):
    def test_all_refusals_are_value_errors(self):
        self.assertEqual(errors.GlanceError.__bases__, (ValueError,))

    def test_each_stands_right_under_glance_error(self):
        for error in OF_A_TEXT + [errors.NoText]:
            self.assertEqual(error.__bases__, (errors.GlanceError,))

    def test_none_stands_under_another(self):
        every = OF_A_TEXT + [errors.NoText]
        for one in every:
            for other in every:
                self.assertEqual(issubclass(one, other), one is other)

    def test_those_made_of_a_text(self):
        for error in OF_A_TEXT + [errors.GlanceError]:
            with self.assertRaises(errors.GlanceError) as caught:
                raise error("some words")
            self.assertEqual(str(caught.exception), "some words")

    def test_no_text_has_its_place(self):
        for at in (0, 7, 2000):
            with self.assertRaises(errors.GlanceError) as caught:
                raise errors.NoText(at)
            self.assertEqual(caught.exception.at, at)

    def test_places_of_two_are_their_own(self):
        one = errors.NoText(1)
        other = errors.NoText(2)
        self.assertEqual((one.at, other.at), (1, 2))
