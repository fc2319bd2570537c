"""Points [1] and [3] to [9] of DOC.md, as far as mastword/arms.py tells of them."""

import inspect
import itertools
import re
import unittest

from mastword import arms
from mastword.arms import freed, ready, reason, runs
from tests.keepers import after_act, after_beat, can_act

SEEN = ["shown", "waits", "asleep", "fogs"]


def subsets(items):
    items = list(items)
    for size in range(len(items) + 1):
        yield from (list(part) for part in itertools.combinations(items, size))


def states(places):
    """All that a line of so many places can show, with all sleepers and fogs."""
    for signs in itertools.product((0, 7), repeat=places):
        for waits in (False, True):
            for asleep in subsets(range(places)):
                for fogs in subsets(range(places - 1)):
                    yield list(signs), waits, asleep, fogs


def read_reason(shown, waits, asleep, fogs, place):
    """A second reading of [6]: every text with what it says, the first that is so."""
    rests, first, last = shown[place] == 0, place == 0, place == len(shown) - 1
    texts = [
        ("asleep", place in asleep),
        ("fog behind", not first and place - 1 in fogs),
        ("nothing comes", rests and not (waits if first else shown[place - 1] != 0)),
        ("still shown behind", not rests and not first and shown[place - 1] != 0),
        ("fog ahead", not last and place in fogs),
        ("not clear ahead", rests and not last and shown[place + 1] != 0),
        ("not copied ahead", not rests and not last and shown[place + 1] == 0),
        ("ready", True),
    ]
    return next(text for text, so in texts if so)


def settled(shown, waits, asleep, fogs):
    """Whether the line is clear and nothing waits once nobody is ready any more."""
    waiting = int(waits)
    while True:
        acting = [place for place in range(len(shown)) if can_act(shown, waiting, asleep, fogs, place)]
        if not acting:
            return not any(shown) and waiting == 0
        shown, waiting = after_beat(shown, waiting, acting)


def without(items, gone):
    return [item for item in items if item not in gone]


class TestInterface(unittest.TestCase):
    def test_arguments_are_named_as_written(self):
        told = {"reason": SEEN + ["place"], "ready": SEEN, "runs": ["shown"], "freed": SEEN}
        for name, arguments in told.items():
            self.assertEqual(list(inspect.signature(getattr(arms, name)).parameters), arguments)


class TestReasonAtRest(unittest.TestCase):
    def test_at_the_first_place(self):
        self.assertEqual(reason([0, 0, 0], True, [], [], 0), "ready")
        self.assertEqual(reason([0, 0, 0], True, [0], [], 0), "asleep")
        self.assertEqual(reason([0, 0, 0], False, [], [], 0), "nothing comes")
        self.assertEqual(reason([0, 0, 0], True, [], [0], 0), "fog ahead")
        self.assertEqual(reason([0, 5, 0], True, [], [], 0), "not clear ahead")

    def test_between(self):
        self.assertEqual(reason([5, 0, 0], False, [], [], 1), "ready")
        self.assertEqual(reason([5, 0, 0], False, [1], [], 1), "asleep")
        self.assertEqual(reason([5, 0, 0], False, [], [0], 1), "fog behind")
        self.assertEqual(reason([0, 0, 0], True, [], [], 1), "nothing comes")
        self.assertEqual(reason([5, 0, 0], False, [], [1], 1), "fog ahead")
        self.assertEqual(reason([5, 0, 6], False, [], [], 1), "not clear ahead")

    def test_at_the_last_place(self):
        self.assertEqual(reason([0, 5, 0], False, [], [], 2), "ready")
        self.assertEqual(reason([0, 5, 0], False, [2], [], 2), "asleep")
        self.assertEqual(reason([0, 5, 0], False, [], [1], 2), "fog behind")
        self.assertEqual(reason([0, 0, 0], True, [], [], 2), "nothing comes")

    def test_which_goes_first(self):
        self.assertEqual(reason([0, 0, 6], False, [1], [0, 1], 1), "asleep")
        self.assertEqual(reason([0, 0, 6], False, [], [0, 1], 1), "fog behind")
        self.assertEqual(reason([0, 0, 6], False, [], [1], 1), "nothing comes")
        self.assertEqual(reason([5, 0, 6], False, [], [1], 1), "fog ahead")
        self.assertEqual(reason([0, 6, 0], False, [0], [0], 0), "asleep")
        self.assertEqual(reason([0, 6, 0], False, [], [0], 0), "nothing comes")
        self.assertEqual(reason([0, 6, 0], True, [], [0], 0), "fog ahead")
        self.assertEqual(reason([0, 0, 0], False, [2], [1], 2), "asleep")
        self.assertEqual(reason([0, 0, 0], False, [], [1], 2), "fog behind")


class TestReasonShowing(unittest.TestCase):
    def test_at_the_first_place(self):
        self.assertEqual(reason([5, 5, 0], False, [], [], 0), "ready")
        self.assertEqual(reason([5, 5, 0], True, [], [], 0), "ready")
        self.assertEqual(reason([5, 5, 0], False, [0], [], 0), "asleep")
        self.assertEqual(reason([5, 5, 0], False, [], [0], 0), "fog ahead")
        self.assertEqual(reason([5, 0, 0], False, [], [], 0), "not copied ahead")

    def test_between(self):
        self.assertEqual(reason([0, 5, 5], False, [], [], 1), "ready")
        self.assertEqual(reason([0, 5, 5], False, [1], [], 1), "asleep")
        self.assertEqual(reason([0, 5, 5], False, [], [0], 1), "fog behind")
        self.assertEqual(reason([5, 5, 5], False, [], [], 1), "still shown behind")
        self.assertEqual(reason([0, 5, 5], False, [], [1], 1), "fog ahead")
        self.assertEqual(reason([0, 5, 0], False, [], [], 1), "not copied ahead")

    def test_at_the_last_place(self):
        self.assertEqual(reason([0, 0, 5], False, [], [], 2), "ready")
        self.assertEqual(reason([0, 0, 5], False, [2], [], 2), "asleep")
        self.assertEqual(reason([0, 0, 5], False, [], [1], 2), "fog behind")
        self.assertEqual(reason([0, 5, 5], False, [], [], 2), "still shown behind")

    def test_which_goes_first(self):
        self.assertEqual(reason([5, 5, 0], False, [1], [0, 1], 1), "asleep")
        self.assertEqual(reason([5, 5, 0], False, [], [0, 1], 1), "fog behind")
        self.assertEqual(reason([5, 5, 0], False, [], [1], 1), "still shown behind")
        self.assertEqual(reason([0, 5, 0], False, [], [1], 1), "fog ahead")
        self.assertEqual(reason([5, 0, 0], False, [0], [0], 0), "asleep")
        self.assertEqual(reason([5, 0, 0], False, [], [0], 0), "fog ahead")
        self.assertEqual(reason([0, 5, 5], False, [2], [1], 2), "asleep")
        self.assertEqual(reason([0, 5, 5], False, [], [1], 2), "fog behind")

    def test_any_sign_ahead_counts_as_copied(self):
        for sign in (1, 5, 94):
            self.assertEqual(reason([5, sign, 0], False, [], [], 0), "ready")


class TestReasonOfAll(unittest.TestCase):
    def test_sleepers_and_fogs_elsewhere_do_not_count(self):
        self.assertEqual(reason([5, 0, 0, 0, 0], True, [0, 2, 3, 4], [2, 3], 1), "ready")
        self.assertEqual(reason([0, 0, 5, 5, 0], True, [0, 1, 3, 4], [0, 3], 2), "ready")

    def test_against_a_second_reading(self):
        for places in (2, 3, 4):
            for state in states(places):
                for place in range(places):
                    self.assertEqual(reason(*state, place), read_reason(*state, place), (state, place))


class TestReady(unittest.TestCase):
    def test_ready_places(self):
        self.assertEqual(ready([0, 0], True, [], []), [0])
        self.assertEqual(ready([0, 0], False, [], []), [])
        self.assertEqual(ready([5, 0, 5, 0, 5, 5], True, [], []), [4])
        self.assertEqual(ready([5, 0, 0, 5, 5], False, [], []), [1, 3])
        self.assertEqual(ready([0, 0, 5, 5, 0, 0, 5, 5, 0, 0, 0, 5], True, [], []), [0, 2, 4, 6, 8, 11])
        self.assertEqual(ready([0, 0, 5, 5, 0, 0, 5, 5, 0, 0, 0, 5], True, [6], [1]), [0, 4, 8, 11])

    def test_against_a_second_reading(self):
        for places in (2, 3, 4):
            for shown, waits, asleep, fogs in states(places):
                wanted = [place for place in range(places) if can_act(shown, int(waits), asleep, fogs, place)]
                self.assertEqual(ready(shown, waits, asleep, fogs), wanted)

    def test_sleepers_and_fogs_in_any_order(self):
        shown = [5, 0, 0, 5, 5, 0, 0, 5]
        for asleep in itertools.permutations([7, 2, 6]):
            for fogs in itertools.permutations([5, 3, 0]):
                self.assertEqual(ready(shown, True, list(asleep), list(fogs)),
                                 ready(shown, True, [2, 6, 7], [0, 3, 5]))

    def test_a_beat_comes_to_the_acts_one_by_one_in_any_order(self):
        for places in (2, 3, 4, 5):
            for shown in itertools.product((0, 7), repeat=places):
                for waits in (False, True):
                    acting = ready(list(shown), waits, [], [])
                    for order in itertools.permutations(acting):
                        self.assertEqual(self.one_by_one(list(shown), waits, order),
                                         after_beat(shown, int(waits), acting))

    def one_by_one(self, shown, waits, order):
        waiting = int(waits)
        for place in order:
            self.assertIn(place, ready(shown, waiting > 0, [], []))
            shown, waiting = after_act(shown, waiting, place)
        return shown, waiting


class TestRuns(unittest.TestCase):
    def test_no_sign(self):
        for places in range(2, 13):
            self.assertEqual(runs([0] * places), [])

    def test_all_signs(self):
        for places in range(2, 13):
            self.assertEqual(runs([94] * places), [(0, places - 1)])

    def test_one_mast(self):
        self.assertEqual(runs([5, 0, 0]), [(0, 0)])
        self.assertEqual(runs([0, 5, 0]), [(1, 1)])
        self.assertEqual(runs([0, 0, 5]), [(2, 2)])

    def test_several_stretches(self):
        self.assertEqual(runs([5, 0, 5, 5, 0, 0, 1]), [(0, 0), (2, 3), (6, 6)])
        self.assertEqual(runs([0, 5, 5, 5, 0, 7, 7, 0]), [(1, 3), (5, 6)])

    def test_unlike_signs_side_by_side_are_one_stretch(self):
        self.assertEqual(runs([0, 5, 6, 94, 0]), [(1, 3)])

    def test_all_lines(self):
        for places in range(2, 13):
            for shown in itertools.product((0, 1), repeat=places):
                found = re.finditer("1+", "".join(str(sign) for sign in shown))
                self.assertEqual(runs(list(shown)), [(part.start(), part.end() - 1) for part in found])

    def test_rows_are_tuples_in_a_list(self):
        told = runs([5, 0, 5])
        self.assertIs(type(told), list)
        self.assertEqual([type(row) for row in told], [tuple, tuple])


class TestFreed(unittest.TestCase):
    def test_where_a_sign_waits_all_must_act(self):
        self.assertEqual(freed([0, 0, 0, 0], True, [0, 3], [0, 2]), ([0, 3], [0, 2]))
        self.assertEqual(freed([0, 0, 0, 5], True, [0, 1], [0, 1]), ([0, 1], [0, 1]))

    def test_where_none_waits_all_from_the_rearmost_sign_on(self):
        every = [0, 1, 2, 3]
        self.assertEqual(freed([5, 0, 0, 0], False, every, [0, 1, 2]), ([0, 1, 2, 3], [0, 1, 2]))
        self.assertEqual(freed([0, 5, 0, 0], False, every, [0, 1, 2]), ([1, 2, 3], [0, 1, 2]))
        self.assertEqual(freed([0, 0, 5, 0], False, every, [0, 1, 2]), ([2, 3], [1, 2]))
        self.assertEqual(freed([0, 0, 0, 5], False, every, [0, 1, 2]), ([3], [2]))
        self.assertEqual(freed([0, 5, 0, 5], False, every, [0, 1, 2]), ([1, 2, 3], [0, 1, 2]))

    def test_where_nothing_must_be_freed(self):
        self.assertEqual(freed([0, 0, 0], False, [0, 1, 2], [0, 1]), ([], []))
        self.assertEqual(freed([0, 0, 0], True, [], []), ([], []))
        self.assertEqual(freed([0, 5, 0], False, [0], []), ([], []))
        self.assertEqual(freed([0, 0, 5, 5], False, [0, 1], [0]), ([], []))

    def test_sleepers_and_fogs_in_any_order(self):
        for asleep in itertools.permutations([1, 4, 5, 7]):
            for fogs in itertools.permutations([0, 2, 3, 6]):
                self.assertEqual(freed([0, 0, 0, 0, 5, 0, 0, 0], False, list(asleep), list(fogs)), ([4, 5, 7], [3, 6]))
                self.assertEqual(freed([0] * 8, True, list(asleep), list(fogs)), ([1, 4, 5, 7], [0, 2, 3, 6]))

    def test_it_is_the_least_that_lets_all_come(self):
        for places in (2, 3):
            for shown, waits, asleep, fogs in states(places):
                wake, lift = freed(shown, waits, asleep, fogs)
                for woken in subsets(asleep):
                    for lifted in subsets(fogs):
                        enough = set(wake) <= set(woken) and set(lift) <= set(lifted)
                        comes = settled(shown, waits, without(asleep, woken), without(fogs, lifted))
                        self.assertEqual(comes, enough, (shown, waits, asleep, fogs, woken, lifted))

    def test_on_longer_lines_it_is_enough_and_each_part_is_needed(self):
        asleep, fogs = list(range(7)), list(range(6))
        for shown in itertools.product((0, 7), repeat=7):
            for waits in (False, True):
                wake, lift = freed(list(shown), waits, asleep, fogs)
                self.assertTrue(settled(shown, waits, without(asleep, wake), without(fogs, lift)))
                for place in wake:
                    self.assertFalse(settled(shown, waits, [place], []))
                for place in lift:
                    self.assertFalse(settled(shown, waits, [], [place]))

    def test_it_is_a_pair_of_lists(self):
        told = freed([0, 0], True, [0], [0])
        self.assertEqual((type(told), [type(part) for part in told]), (tuple, [list, list]))


class TestCopies(unittest.TestCase):
    def test_what_was_handed_in_stays(self):
        for shown in itertools.product((0, 7), repeat=4):
            for waits in (False, True):
                signs, asleep, fogs = list(shown), [3, 0, 2], [2, 0]
                reason(signs, waits, asleep, fogs, 1)
                ready(signs, waits, asleep, fogs)
                runs(signs)
                freed(signs, waits, asleep, fogs)
                self.assertEqual((signs, asleep, fogs), (list(shown), [3, 0, 2], [2, 0]))

    def test_told_lists_are_new_ones(self):
        shown, asleep, fogs = [0, 0], [0, 1], [0]
        wake, lift = freed(shown, True, asleep, fogs)
        wake.append(9)
        lift.append(9)
        runs(shown).append((9, 9))
        ready(shown, True, [], []).append(9)
        self.assertEqual((shown, asleep, fogs), ([0, 0], [0, 1], [0]))
        self.assertEqual(freed(shown, True, asleep, fogs), ([0, 1], [0]))
        self.assertEqual(runs(shown), [])
        self.assertEqual(ready(shown, True, [], []), [0])

    def test_what_is_changed_afterwards_changes_nothing_told(self):
        shown, asleep, fogs = [5, 0, 0], [0], [1]
        told = (freed(shown, False, asleep, fogs), runs(shown), ready(shown, False, [], []))
        shown[0] = 0
        asleep.append(1)
        fogs.append(0)
        self.assertEqual(told, (([0], [1]), [(0, 0)], [1]))


if __name__ == "__main__":
    unittest.main()
