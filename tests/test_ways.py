"""Points [1] and [2] of DOC.md, as far as mastword/ways.py tells of them."""

import inspect
import unittest

from mastword.errors import BadWay, NoMast
from mastword.ways import along, place_of

NO_WAYS = ["", "Up", "UP", "up ", " up", "up\n", "u", "p", "updown", "up down", "Down", "down ", "downs", "left", "0", "~"]
FAR = [10 ** 6, 10 ** 30, 10 ** 5000]


class TestInterface(unittest.TestCase):
    def test_arguments_are_named_as_written(self):
        self.assertEqual(list(inspect.signature(place_of).parameters), ["way", "masts", "mast"])
        self.assertEqual(list(inspect.signature(along).parameters), ["way", "row"])


class TestPlaceOf(unittest.TestCase):
    def test_up_places_are_the_masts_numbers(self):
        for masts in range(2, 13):
            self.assertEqual([place_of("up", masts, mast) for mast in range(masts)], list(range(masts)))

    def test_down_places_are_counted_from_the_last_mast(self):
        self.assertEqual([place_of("down", 2, mast) for mast in (0, 1)], [1, 0])
        self.assertEqual([place_of("down", 5, mast) for mast in range(5)], [4, 3, 2, 1, 0])
        self.assertEqual((place_of("down", 12, 0), place_of("down", 12, 11)), (11, 0))
        for masts in range(2, 13):
            self.assertEqual([place_of("down", masts, masts - 1 - place) for place in range(masts)], list(range(masts)))

    def test_no_mast_just_beyond_the_line(self):
        for way in ("up", "down"):
            for masts in range(2, 13):
                for mast in (-1, masts, masts + 1, -masts):
                    with self.subTest(way=way, masts=masts, mast=mast), self.assertRaises(NoMast):
                        place_of(way, masts, mast)

    def test_no_mast_far_out(self):
        for way in ("up", "down"):
            for far in FAR:
                for mast in (far, -far):
                    with self.assertRaises(NoMast):
                        place_of(way, 12, mast)

    def test_bad_way(self):
        for way in NO_WAYS:
            with self.subTest(way=way), self.assertRaises(BadWay):
                place_of(way, 4, 2)

    def test_bad_way_goes_ahead_of_no_mast(self):
        for way in NO_WAYS:
            for mast in (-1, 4, 10 ** 5000):
                with self.assertRaises(BadWay):
                    place_of(way, 4, mast)


class TestAlong(unittest.TestCase):
    def test_up(self):
        self.assertEqual(along("up", [3, 0, 94]), [3, 0, 94])
        self.assertEqual(along("up", ["a", None]), ["a", None])

    def test_down(self):
        self.assertEqual(along("down", [3, 0, 94]), [94, 0, 3])
        self.assertEqual(along("down", ["a", None]), [None, "a"])

    def test_each_mast_stands_at_its_place(self):
        for way in ("up", "down"):
            for masts in range(2, 13):
                told = along(way, list(range(masts)))
                for mast in range(masts):
                    self.assertEqual(told[place_of(way, masts, mast)], mast)

    def test_bad_way(self):
        for way in NO_WAYS:
            row = [1, 2, 3]
            with self.subTest(way=way), self.assertRaises(BadWay):
                along(way, row)
            self.assertEqual(row, [1, 2, 3])

    def test_what_was_handed_in_stays(self):
        for way in ("up", "down"):
            row = [1, 2, 3]
            along(way, row)
            self.assertEqual(row, [1, 2, 3])

    def test_the_told_list_is_a_new_one(self):
        for way, wanted in (("up", [1, 2, 3]), ("down", [3, 2, 1])):
            row = [1, 2, 3]
            told = along(way, row)
            self.assertIs(type(told), list)
            told[0] = 9
            told.append(8)
            self.assertEqual(row, [1, 2, 3])
            self.assertEqual(along(way, row), wanted)

    def test_a_row_changed_afterwards_changes_nothing(self):
        for way, wanted in (("up", [1, 2, 3]), ("down", [3, 2, 1])):
            row = [1, 2, 3]
            told = along(way, row)
            row[0] = 9
            row.append(8)
            self.assertEqual(told, wanted)


if __name__ == "__main__":
    unittest.main()
