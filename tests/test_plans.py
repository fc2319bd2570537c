"""Points [1], [7] and [14] of DOC.md: plans."""

import inspect
import itertools
import unittest

from mastword import plans
from mastword.errors import BadCount, NoMast
from mastword.plans import latest, through, times
from tests.keepers import after_beat, can_act

FAR = 10 ** 5000
BAD_PLACES = [[], [1], [1] * 13, [1] * 14, [1] * 1000]
BAD_SIGNS = [-1, 61, -60, 62, 1000, FAR, -FAR]
BAD_BEATS = [0, 1001, -1, 1002, -1000, FAR, -FAR]
UNLIKE = [
    (0, [3, 9]), (1, [1000, 1000]), (1, [1000, 1]), (1, [1, 1000]), (2, [7, 1, 30, 2]), (5, [1, 40, 1, 1, 25, 3]),
    (60, [1] * 12), (60, [12, 11, 10, 9, 8, 7, 6, 5, 4, 3, 2, 1]), (60, [1, 90, 1, 1, 1, 300, 1, 1, 2, 1, 1, 200]),
    (60, [1000] * 12), (60, [1, 1]), (59, [1, 1, 17]), (7, [1, 1, 1, 1, 1, 1, 1, 1, 1, 1, 1, 1000]),
]


def small_plans():
    """Plans with few places and signs, with all first beats from 1 to 5."""
    for places in (2, 3, 4):
        for wakes in itertools.product(range(1, 6), repeat=places):
            for signs in (0, 1, 2, 3):
                yield signs, list(wakes)


def beat_by_beat(signs, wakes):
    """A second reading of [14]: the beats of each keeper's acts, and the beat behind which all is through."""
    shown, waiting, beat = [0] * len(wakes), signs, 0
    acts = [[] for _ in wakes]
    while waiting > 0 or any(shown):
        beat += 1
        asleep = [place for place, wake in enumerate(wakes) if beat < wake]
        acting = [place for place in range(len(wakes)) if can_act(shown, waiting, asleep, [], place)]
        for place in acting:
            acts[place].append(beat)
        shown, waiting = after_beat(shown, waiting, acting)
    return [([row[2 * sign] for row in acts], [row[2 * sign + 1] for row in acts]) for sign in range(signs)], beat


def with_wake(wakes, place, beat):
    return wakes[:place] + [beat] + wakes[place + 1:]


class TestInterface(unittest.TestCase):
    def test_arguments_are_named_as_written(self):
        self.assertEqual(list(inspect.signature(times).parameters), ["signs", "wakes"])
        self.assertEqual(list(inspect.signature(through).parameters), ["signs", "wakes"])
        self.assertEqual(list(inspect.signature(latest).parameters), ["signs", "wakes", "place"])


class TestTimes(unittest.TestCase):
    def test_no_sign(self):
        for places in range(2, 13):
            self.assertEqual(times(0, [1] * places), [])
            self.assertEqual(times(0, [1000] * places), [])

    def test_one_sign(self):
        self.assertEqual(times(1, [1, 1]), [([1, 2], [3, 4])])
        self.assertEqual(times(1, [1, 1, 1]), [([1, 2, 3], [3, 4, 5])])

    def test_many_signs(self):
        self.assertEqual(times(3, [1, 1]), [([1, 2], [3, 4]), ([5, 6], [7, 8]), ([9, 10], [11, 12])])
        self.assertEqual(times(2, [1, 1, 1]), [([1, 2, 3], [3, 4, 5]), ([5, 6, 7], [7, 8, 9])])

    def test_unlike_first_beats(self):
        self.assertEqual(times(1, [4, 1]), [([4, 5], [6, 7])])
        self.assertEqual(times(1, [1, 4]), [([1, 4], [5, 6])])
        self.assertEqual(times(2, [1, 1, 10]), [([1, 2, 10], [3, 11, 12]), ([12, 13, 14], [14, 15, 16])])
        self.assertEqual(times(1, [1, 1000]), [([1, 1000], [1001, 1002])])

    def test_against_going_beat_by_beat(self):
        for signs, wakes in itertools.chain(small_plans(), UNLIKE):
            self.assertEqual(times(signs, wakes), beat_by_beat(signs, wakes)[0], (signs, wakes))

    def test_kinds_of_values(self):
        told = times(2, [1, 1, 1])
        self.assertIs(type(told), list)
        for row in told:
            self.assertEqual((type(row), [type(part) for part in row]), (tuple, [list, list]))


class TestThrough(unittest.TestCase):
    def test_no_sign(self):
        for wakes in ([1, 1], [1000, 1000], [5] * 12):
            self.assertEqual(through(0, wakes), 0)

    def test_one_sign_and_many(self):
        self.assertEqual([through(signs, [1, 1]) for signs in (1, 2, 3, 60)], [4, 8, 12, 240])
        self.assertEqual([through(signs, [1] * 12) for signs in (1, 2, 60)], [14, 18, 250])

    def test_unlike_first_beats(self):
        self.assertEqual(through(1, [1, 4]), 6)
        self.assertEqual(through(2, [1, 1, 10]), 16)
        self.assertEqual(through(1, [1000, 1000]), 1003)

    def test_behind_that_beat_all_arms_rest_and_nothing_waits(self):
        for signs, wakes in itertools.chain(small_plans(), UNLIKE):
            self.assertEqual(through(signs, wakes), beat_by_beat(signs, wakes)[1], (signs, wakes))


class TestLatest(unittest.TestCase):
    def test_no_sign(self):
        self.assertEqual([latest(0, [5, 1, 1000], place) for place in range(3)], [1000] * 3)

    def test_told_ones(self):
        self.assertEqual([latest(1, [1, 1], place) for place in (0, 1)], [1, 2])
        self.assertEqual([latest(1, [1, 1, 1], place) for place in range(3)], [1, 2, 3])
        self.assertEqual([latest(1, [1, 9, 1], place) for place in range(3)], [8, 9, 10])
        self.assertEqual([latest(60, [1] * 12, place) for place in range(12)], list(range(1, 13)))

    def test_its_bound(self):
        self.assertEqual([latest(1, [1000, 1], place) for place in (0, 1)], [1000, 1000])
        self.assertEqual([latest(1, [999, 1], place) for place in (0, 1)], [999, 1000])
        self.assertEqual([latest(1, [998, 1], place) for place in (0, 1)], [998, 999])
        self.assertEqual([latest(60, [1000] * 12, place) for place in range(12)], [1000] * 12)

    def test_one_beat_more_is_too_late(self):
        for signs, wakes in itertools.chain(small_plans(), UNLIKE):
            end = through(signs, wakes)
            for place in range(len(wakes)):
                beat = latest(signs, wakes, place)
                self.assertTrue(wakes[place] <= beat <= 1000)
                self.assertLessEqual(through(signs, with_wake(wakes, place, beat)), end)
                if beat < 1000:
                    self.assertGreater(through(signs, with_wake(wakes, place, beat + 1)), end)

    def test_against_trying_every_beat(self):
        for signs, wakes in UNLIKE[:6]:
            end = through(signs, wakes)
            for place in range(len(wakes)):
                fit = [beat for beat in range(1, 1001) if through(signs, with_wake(wakes, place, beat)) <= end]
                self.assertEqual(latest(signs, wakes, place), max(fit))


class TestRefusals(unittest.TestCase):
    def refused(self, signs, wakes, places=(0,)):
        """The texts with which all three functions refuse with BadCount: one and the same."""
        texts = set()
        for ask in (times, through, *(lambda signs, wakes, at=at: latest(signs, wakes, at) for at in places)):
            with self.assertRaises(BadCount) as caught:
                ask(signs, wakes)
            self.assertIs(type(caught.exception), BadCount)
            texts.add(str(caught.exception))
        self.assertEqual(len(texts), 1)
        return texts.pop()

    def test_the_count_of_places(self):
        for wakes in BAD_PLACES:
            self.refused(1, wakes)
        for wakes in ([1] * 2, [1] * 12):
            self.assertEqual(len(times(1, wakes)[0][0]), len(wakes))

    def test_the_count_of_signs(self):
        for signs in BAD_SIGNS:
            self.refused(signs, [1, 1, 1])
        for signs in (0, 1, 60):
            self.assertEqual(len(times(signs, [1, 1, 1])), signs)

    def test_first_beats(self):
        for beat in BAD_BEATS:
            for place in range(3):
                for signs in (0, 2):
                    self.refused(signs, with_wake([1, 1000, 5], place, beat))
        self.assertEqual(through(1, [1, 1000]), 1002)

    def test_the_order_of_refusals(self):
        places = self.refused(1, [1])
        signs = self.refused(61, [1, 1])
        beats = self.refused(1, [1, 0])
        self.assertEqual(len({places, signs, beats}), 3)
        for wakes in ([1], [0], [1001] * 13, [1] * 13):
            self.assertEqual({self.refused(count, wakes) for count in (1, -1, 61)}, {places})
        for wakes in ([1, 1], [0, 1], [1, 1001], [0] * 12):
            self.assertEqual({self.refused(count, wakes) for count in (-1, 61)}, {signs})
        for wakes in ([0, 1], [1, 1001], [0] * 12):
            self.assertEqual({self.refused(count, wakes) for count in (0, 60)}, {beats})

    def test_no_mast(self):
        for places in (2, 12):
            for place in (-1, -places, places, places + 1, 1000, FAR, -FAR):
                for signs in (0, 60):
                    with self.assertRaises(NoMast):
                        latest(signs, [1] * places, place)

    def test_no_mast_goes_behind_bad_count(self):
        for signs, wakes in ((1, [1]), (1, [1] * 13), (-1, [1, 1]), (61, [1, 1]), (1, [0, 1]), (1, [1, 1001])):
            self.refused(signs, wakes, places=(-1, 0, 13, FAR))


class TestCopies(unittest.TestCase):
    def test_first_beats_handed_in_stay(self):
        for signs, wakes in UNLIKE:
            handed = list(wakes)
            times(signs, handed)
            through(signs, handed)
            for place in range(len(wakes)):
                latest(signs, handed, place)
            self.assertEqual(handed, wakes)

    def test_they_stay_where_it_is_refused(self):
        for signs, wakes in ((1, [3]), (61, [3, 4]), (1, [3, 0])):
            handed = list(wakes)
            for ask in (times, through, lambda signs, wakes: latest(signs, wakes, 0)):
                with self.assertRaises(BadCount):
                    ask(signs, handed)
            self.assertEqual(handed, wakes)
        handed = [3, 4]
        with self.assertRaises(NoMast):
            latest(1, handed, 2)
        self.assertEqual(handed, [3, 4])

    def test_told_lists_are_new_ones(self):
        wakes = [1, 1]
        told = times(2, wakes)
        told[0][1][0] = 99
        told[0][0].append(99)
        self.assertEqual(told[1], ([5, 6], [7, 8]))
        told.append(None)
        self.assertEqual(times(2, wakes), [([1, 2], [3, 4]), ([5, 6], [7, 8])])
        self.assertEqual(wakes, [1, 1])

    def test_first_beats_changed_afterwards_change_nothing_told(self):
        wakes = [1, 1]
        told = times(1, wakes)
        wakes[0] = 9
        self.assertEqual(told, [([1, 2], [3, 4])])


if __name__ == "__main__":
    unittest.main()
