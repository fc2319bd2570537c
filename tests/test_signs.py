"""Points [1], [2] and [15] to [17] of DOC.md, as far as mastword/signs.py tells of them."""

import inspect
import string
import unittest

from mastword import signs
from mastword.errors import BadSign, BadSigns
from mastword.signs import is_sign, kind_of, letter_of, sign_of, standing

# 10 ** 5000 has more figures than Python is willing to write by itself.
NO_SIGNS = [0, 95, 96, 1000, -1, -40, -94, 10 ** 30, -(10 ** 30), 10 ** 5000, -(10 ** 5000)]


class TestInterface(unittest.TestCase):
    def test_arguments_are_named_as_written(self):
        told = {"is_sign": "number", "kind_of": "sign", "letter_of": "sign", "sign_of": "letter", "standing": "signs"}
        for name, argument in told.items():
            self.assertEqual(list(inspect.signature(getattr(signs, name)).parameters), [argument])


class TestIsSign(unittest.TestCase):
    def test_signs_are_1_to_94(self):
        for number in range(1, 95):
            self.assertIs(is_sign(number), True, number)

    def test_other_numbers_are_none(self):
        for number in NO_SIGNS:
            self.assertIs(is_sign(number), False)


class TestKindOf(unittest.TestCase):
    def test_edges(self):
        told = {1: "page", 40: "page", 41: "letter", 66: "letter", 67: "end", 68: "strike", 69: "spare", 94: "spare"}
        for sign, kind in told.items():
            self.assertEqual(kind_of(sign), kind, sign)

    def test_all_signs(self):
        kinds = ["page"] * 40 + ["letter"] * 26 + ["end", "strike"] + ["spare"] * 26
        self.assertEqual([kind_of(sign) for sign in range(1, 95)], kinds)

    def test_what_is_no_sign_is_refused(self):
        for number in NO_SIGNS:
            with self.assertRaises(BadSign):
                kind_of(number)


class TestLetters(unittest.TestCase):
    def test_edges(self):
        self.assertEqual((letter_of(41), letter_of(66)), ("a", "z"))
        self.assertEqual((sign_of("a"), sign_of("z")), (41, 66))

    def test_there_and_back_for_all(self):
        self.assertEqual("".join(letter_of(sign) for sign in range(41, 67)), string.ascii_lowercase)
        for letter in string.ascii_lowercase:
            self.assertEqual(letter_of(sign_of(letter)), letter)
            self.assertEqual(kind_of(sign_of(letter)), "letter")
        for sign in range(41, 67):
            self.assertEqual(sign_of(letter_of(sign)), sign)


class TestStanding(unittest.TestCase):
    def told_place(self, came):
        with self.assertRaises(BadSigns) as caught:
            standing(came)
        return caught.exception.at

    def test_nothing_came(self):
        self.assertEqual(standing([]), [])

    def test_without_a_strike_all_stand(self):
        self.assertEqual(standing([3]), [(3, 0)])
        self.assertEqual(standing([3, 94, 67, 3]), [(3, 0), (94, 1), (67, 2), (3, 3)])

    def test_rows_are_tuples_in_a_list(self):
        told = standing([3, 4])
        self.assertIs(type(told), list)
        self.assertEqual([type(row) for row in told], [tuple, tuple])

    def test_the_neighbours_of_68_are_no_strikes(self):
        self.assertEqual(standing([5, 67, 69]), [(5, 0), (67, 1), (69, 2)])

    def test_a_strike_takes_the_last_sign_and_itself(self):
        self.assertEqual(standing([3, 68]), [])
        self.assertEqual(standing([3, 4, 68, 5]), [(3, 0), (5, 3)])
        self.assertEqual(standing([3, 68, 4, 68, 5]), [(5, 4)])

    def test_strikes_behind_one_another_go_further_back(self):
        self.assertEqual(standing([1, 2, 3, 68, 68, 9]), [(1, 0), (9, 5)])
        self.assertEqual(standing([1, 2, 3, 68, 68, 68]), [])
        self.assertEqual(standing([1, 2, 68, 3, 68, 68, 4]), [(4, 6)])

    def test_a_strike_that_finds_nothing(self):
        self.assertEqual(self.told_place([68]), 0)
        self.assertEqual(self.told_place([68, 68]), 0)
        self.assertEqual(self.told_place([68, 3, 68]), 0)
        self.assertEqual(self.told_place([3, 68, 68]), 2)
        self.assertEqual(self.told_place([3, 4, 68, 68, 68, 5, 68, 68]), 4)
        self.assertEqual(self.told_place([1, 68, 2, 68, 68, 3]), 4)

    def test_what_was_handed_in_stays(self):
        came = [3, 4, 68, 5]
        standing(came)
        self.assertEqual(came, [3, 4, 68, 5])
        refused = [3, 68, 68, 5]
        self.told_place(refused)
        self.assertEqual(refused, [3, 68, 68, 5])

    def test_the_told_list_is_a_new_one(self):
        came = [3, 4]
        told = standing(came)
        told.append((9, 9))
        told[0] = (8, 8)
        self.assertEqual(came, [3, 4])
        self.assertEqual(standing(came), [(3, 0), (4, 1)])

    def test_many_signs(self):
        self.assertEqual(standing([7] * 5000 + [68] * 4999), [(7, 0)])


if __name__ == "__main__":
    unittest.main()
