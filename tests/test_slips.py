"""Points [1], [12] and [13] of DOC.md: stretches that rows tell, and askings."""

import inspect
import itertools
import unittest

from mastword import slips
from mastword.slips import askings, halvings, stretches, to_ask

LONG = [7, None, None, None, None, None, None, None, None, None, None, 8]


def small_rows():
    """All rows of up to six places over two signs and lost rows."""
    for places in range(7):
        yield from (list(row) for row in itertools.product((None, 4, 5), repeat=places))


def read_stretches(values):
    """A second reading of [12]: any two places with unlike signs and only lost rows between."""
    found = []
    for first, second in itertools.combinations(range(len(values)), 2):
        ends = (values[first], values[second])
        if None not in ends and ends[0] != ends[1] and set(values[first + 1:second]) <= {None}:
            found.append((first, second, *ends))
    return found


def read_halvings(gaps):
    """A second reading of [13]: halve, take the greater half, and count."""
    count = 0
    while gaps != 1:
        gaps = max(gaps // 2, gaps - gaps // 2)
        count += 1
    return count


class TestInterface(unittest.TestCase):
    def test_arguments_are_named_as_written(self):
        told = {"stretches": "values", "halvings": "gaps", "askings": "values", "to_ask": "values"}
        for name, argument in told.items():
            self.assertEqual(list(inspect.signature(getattr(slips, name)).parameters), [argument])


class TestStretches(unittest.TestCase):
    def test_no_row_and_one_row(self):
        for values in ([], [5], [None]):
            self.assertEqual(stretches(values), [])

    def test_none_lost(self):
        self.assertEqual(stretches([5, 5, 5]), [])
        self.assertEqual(stretches([5, 6]), [(0, 1, 5, 6)])
        self.assertEqual(stretches([5, 5, 6, 6]), [(1, 2, 5, 6)])
        self.assertEqual(stretches([5, 6, 5]), [(0, 1, 5, 6), (1, 2, 6, 5)])

    def test_lost_rows_between(self):
        self.assertEqual(stretches([5, None, 5]), [])
        self.assertEqual(stretches([5, None, 6]), [(0, 2, 5, 6)])
        self.assertEqual(stretches([5, None, None, 6, None, 6, None, 94]), [(0, 3, 5, 6), (5, 7, 6, 94)])
        self.assertEqual(stretches(LONG), [(0, 11, 7, 8)])

    def test_lost_rows_at_either_end(self):
        self.assertEqual(stretches([None, None, 5, 6]), [(2, 3, 5, 6)])
        self.assertEqual(stretches([5, 6, None, None]), [(0, 1, 5, 6)])
        self.assertEqual(stretches([None, 5, None, 1, None]), [(1, 3, 5, 1)])
        self.assertEqual(stretches([None, 5, None]), [])
        self.assertEqual(stretches([None, None, None]), [])

    def test_against_a_second_reading(self):
        for values in small_rows():
            self.assertEqual(stretches(values), read_stretches(values), values)

    def test_rows_are_tuples_in_a_list(self):
        told = stretches([5, 6, 5])
        self.assertIs(type(told), list)
        self.assertEqual([type(row) for row in told], [tuple, tuple])


class TestHalvings(unittest.TestCase):
    def test_small_numbers(self):
        self.assertEqual([halvings(gaps) for gaps in range(1, 12)], [0, 1, 2, 2, 3, 3, 3, 3, 4, 4, 4])

    def test_against_halving(self):
        for gaps in range(1, 1100):
            self.assertEqual(halvings(gaps), read_halvings(gaps), gaps)

    def test_very_large_numbers(self):
        for power in (64, 1000, 100000):
            self.assertEqual([halvings(2 ** power + more) for more in (-1, 0, 1)], [power, power, power + 1])
        self.assertEqual(halvings(10 ** 500), read_halvings(10 ** 500))


class TestAskings(unittest.TestCase):
    def test_no_stretch(self):
        for values in ([], [5], [5, 5], [5, None, None, 5], [None, 5, None]):
            self.assertEqual(askings(values), 0)

    def test_one_stretch(self):
        for gaps, count in ((1, 0), (2, 1), (3, 2), (4, 2), (5, 3), (8, 3), (9, 4), (11, 4)):
            self.assertEqual(askings([5] + [None] * (gaps - 1) + [6]), count, gaps)

    def test_the_sum_over_the_stretches(self):
        self.assertEqual(askings([5, None, 6, None, None, 5]), 1 + 2)
        self.assertEqual(askings([5, None, None, None, 6, 7, None, None, None, None, 8]), 2 + 0 + 3)
        self.assertEqual(askings([5, None, 6, None, None, 6, None, 7]), 1 + 1)

    def test_against_a_second_reading(self):
        for values in small_rows():
            wanted = sum(read_halvings(row[1] - row[0]) for row in read_stretches(values))
            self.assertEqual(askings(values), wanted, values)

    def test_so_many_askings_are_enough_and_needed_at_the_worst(self):
        for places in range(2, 13):
            most = max(self.asked(places, slip) for slip in range(1, places))
            self.assertEqual(askings([5] + [None] * (places - 2) + [6]), most)

    def asked(self, places, slip):
        """How often keepers are asked until the one slip, ahead of a place, stands between neighbours."""
        written = [5] * slip + [6] * (places - slip)
        values = [5] + [None] * (places - 2) + [6]
        count = 0
        while to_ask(values) is not None:
            place = to_ask(values)
            self.assertIsNone(values[place])
            values[place] = written[place]
            count += 1
        self.assertEqual(stretches(values), [(slip - 1, slip, 5, 6)])
        return count


class TestToAsk(unittest.TestCase):
    def test_none(self):
        for values in ([], [5], [5, 6], [5, 6, 5], [5, None, 5], [None, None, 5, 6, None], [None, 5, None]):
            self.assertIsNone(to_ask(values))

    def test_the_middle_of_a_stretch(self):
        for gaps, place in ((2, 1), (3, 1), (4, 2), (5, 2), (11, 5)):
            self.assertEqual(to_ask([5] + [None] * (gaps - 1) + [6]), place)
            self.assertEqual(to_ask([None] + [5] + [None] * (gaps - 1) + [6]), (2 + gaps) // 2)

    def test_the_first_stretch_with_more_than_one_gap(self):
        self.assertEqual(to_ask([5, 6, 7, None, 8]), 3)
        self.assertEqual(to_ask([5, None, 5, None, 6, None, None, None, 7]), 3)
        self.assertEqual(to_ask([5, None, 6, None, None, None, None, 7]), 1)

    def test_against_a_second_reading(self):
        for values in small_rows():
            middles = [(row[0] + row[1]) // 2 for row in read_stretches(values) if row[1] - row[0] > 1]
            self.assertEqual(to_ask(values), (middles + [None])[0], values)


class TestCopies(unittest.TestCase):
    def test_what_was_handed_in_stays(self):
        for ask in (stretches, askings, to_ask):
            values = [None, 5, None, None, 6, 7, None]
            ask(values)
            self.assertEqual(values, [None, 5, None, None, 6, 7, None])

    def test_the_told_list_is_a_new_one(self):
        values = [5, None, 6]
        told = stretches(values)
        told.append((9, 9, 9, 9))
        told[0] = None
        self.assertEqual(values, [5, None, 6])
        self.assertEqual(stretches(values), [(0, 2, 5, 6)])
        self.assertEqual((askings(values), to_ask(values)), (1, 1))

    def test_rows_changed_afterwards_change_nothing(self):
        values = [5, None, 6]
        told = stretches(values)
        values[1] = 6
        self.assertEqual(told, [(0, 2, 5, 6)])
        self.assertEqual(stretches(values), [(0, 1, 5, 6)])


if __name__ == "__main__":
    unittest.main()
