"""The refusals of DOC.md's interface, mastword/errors.py."""

import unittest

from mastword import errors

PLAIN = (
    "BadCount NoMast BadWay BadSign Full NothingWaits NotReady NotRaising BadSlip Asleep Awake Fogged Clear Busy "
    "NoRow NoBook Lost Legible NothingLeft BadPlace BadWord Taken Known NoWord BadLine"
).split()
WITH_PLACE = ["BadSigns", "BadPage"]


class TestErrors(unittest.TestCase):
    def test_mast_error_stands_straight_under_value_error(self):
        self.assertEqual(errors.MastError.__bases__, (ValueError,))

    def test_each_class_stands_straight_under_mast_error(self):
        for name in PLAIN + WITH_PLACE:
            with self.subTest(name=name):
                self.assertEqual(getattr(errors, name).__bases__, (errors.MastError,))
                self.assertEqual(getattr(errors, name).__name__, name)

    def test_no_class_is_another_one(self):
        classes = [getattr(errors, name) for name in PLAIN + WITH_PLACE]
        self.assertEqual(len(set(classes)), 27)
        for one in classes:
            for other in classes:
                if one is not other:
                    self.assertFalse(issubclass(one, other), (one, other))

    def test_plain_ones_are_made_with_and_without_a_message(self):
        for name in PLAIN:
            with self.subTest(name=name):
                with self.assertRaises(errors.MastError) as caught:
                    raise getattr(errors, name)("so it is")
                self.assertEqual(str(caught.exception), "so it is")
                self.assertIsInstance(getattr(errors, name)(), ValueError)

    def test_the_field_at(self):
        for name in WITH_PLACE:
            for at in (0, 1, 7, 10 ** 6):
                with self.subTest(name=name, at=at):
                    self.assertEqual(getattr(errors, name)(at).at, at)
                    self.assertEqual(getattr(errors, name)(at=at).at, at)

    def test_the_field_at_belongs_to_the_object(self):
        for name in WITH_PLACE:
            first, second = getattr(errors, name)(1), getattr(errors, name)(2)
            self.assertEqual((first.at, second.at), (1, 2))

    def test_the_place_must_be_told(self):
        for name in WITH_PLACE:
            with self.assertRaises(TypeError):
                getattr(errors, name)()


if __name__ == "__main__":
    unittest.main()
