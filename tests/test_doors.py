"""The refusals at every door: what is told of wrong places, ties, rows, counts and numbers, and which one first."""

import unittest

from samples import RefusedCase, all_ties, by_weights, endless, mixed, no_lists, no_numbers
from tipwebs.crowds import crowd, lonely
from tipwebs.errors import BadCounts, BadNumber, BadPlaces, BadRow, BadTies, NoTip
from tipwebs.kinds import kind_by, number_of
from tipwebs.rows import by_counts, by_row, row_of
from tipwebs.weighing import told

TIPWEB_DOORS = [row_of, number_of, crowd, lonely]
WEB_DOORS = [told] + TIPWEB_DOORS

OUT_OF_RANGE = [0, 41, 42, -1, -40, 2 ** 64, -2 ** 64, 10 ** 5000, -10 ** 5000]


def no_pairs():
    """Values of any kind that are no pairs, new each time."""
    others = [value for value in no_numbers() if value.__class__ is not tuple or len(value) != 2]
    return others + [endless(), 0, -1, 10 ** 5000, [0, 1], [0, False], "01", {0, 1}, (0,), (0, 1, 2), (0, False, True)]


def with_item(listed, item):
    """The list with an item put first, last and in the middle."""
    for at in [0, len(listed) // 2, len(listed)]:
        yield listed[:at] + [item] + listed[at:]


def with_item_for_another(listed, item):
    """The list with an item for its first, its last and its middle one."""
    for at in [0, len(listed) // 2, len(listed) - 1]:
        yield listed[:at] + [item] + listed[at + 1:]


class WebDoorsTest(RefusedCase):
    def refused_by_all(self, kind, places, ties):
        for door in WEB_DOORS:
            self.refused(kind, door, places, ties)

    def test_wrong_places(self):
        for places in no_numbers() + OUT_OF_RANGE + [endless()]:
            self.refused_by_all(BadPlaces, places, [])
            self.refused_by_all(BadPlaces, places, [(0, 1)])

    def test_ties_that_are_no_list(self):
        for ties in no_lists() + [((0, 1),), {(0, 1)}, frozenset([(0, 1)]), {(0, 1): True}, iter([(0, 1)])]:
            self.refused_by_all(BadTies, 3, ties)

    def test_items_that_are_no_pairs(self):
        for item in no_pairs():
            for ties in with_item(all_ties(40), item):
                self.refused_by_all(BadTies, 40, ties)

    def test_pairs_that_are_no_ties(self):
        for value in no_numbers() + [-1, 40, 10 ** 5000, -10 ** 5000]:
            for ties in [[(0, value)], [(value, 39)], [(value, value)], all_ties(39) + [(value, 39)]]:
                self.refused_by_all(BadTies, 40, ties)
        for item in [(0, 0), (39, 39), (1, 0), (39, 38)]:
            for ties in with_item(all_ties(40), item):
                self.refused_by_all(BadTies, 40, ties)

    def test_a_pair_twice(self):
        for pair in [(0, 1), (17, 23), (38, 39)]:
            for ties in with_item(all_ties(40), pair):
                self.refused_by_all(BadTies, 40, ties)

    def test_a_place_too_many(self):
        for places in range(1, 40):
            self.refused_by_all(BadTies, places, all_ties(places) + [(0, places)])
        self.refused_by_all(BadTies, 1, [(0, 1)])

    def test_no_tipweb(self):
        for places, ties in [(4, [(0, 1), (2, 3)]), (40, [(0, 39), (1, 38)]), (40, [(k, k + 1) for k in range(39)])]:
            for door in TIPWEB_DOORS:
                self.refused(NoTip, door, places, ties)

    def test_places_are_told_before_ties(self):
        for places in [None, "4", True, 4.0, [4], 0, 41, -1, 10 ** 5000]:
            for ties in no_lists() + [[None], [(0, 0)], [(0, 1), (0, 1)], [(0, 1), (2, 3)]]:
                self.refused_by_all(BadPlaces, places, ties)

    def test_ties_are_told_before_no_tipweb(self):
        barred = [(0, 1), (2, 3)]
        for item in [None, [0, 2], (0, 4), (2, 0), (0, 1), (True, 2), (0, 0), ()]:
            for ties in with_item(barred, item):
                self.refused_by_all(BadTies, 4, ties)


class RowDoorTest(RefusedCase):
    def refused_row(self, row):
        self.refused(BadRow, by_row, row)

    def test_no_list(self):
        for row in no_lists() + [((0, False),), {(0, False)}, {0: False}, {(0, False): True}, iter([(0, False)])]:
            self.refused_row(row)

    def test_no_place_and_too_many(self):
        self.refused_row([])
        self.refused_row([(place, False) for place in range(41)])
        self.refused_row([(place, False) for place in range(1000)])
        self.refused_row(endless())

    def test_items_that_are_no_pairs(self):
        good = list(zip(mixed(range(40)), [False] * 40))
        for item in no_pairs():
            self.refused_row([item])
            for row in list(with_item_for_another(good, item)) + list(with_item(good[:20], item)):
                self.refused_row(row)

    def test_places_that_are_none(self):
        good = [(place, place > 0) for place in range(40)]
        for value in no_numbers() + [-1, 40, 10 ** 5000, -10 ** 5000, endless()]:
            self.refused_row([(value, False)])
            for at in [0, 20, 39]:
                self.refused_row(good[:at] + [(value, at > 0)] + good[at + 1:])

    def test_truths_that_are_none(self):
        good = [(place, place > 0) for place in range(40)]
        for value in [value for value in no_numbers() if value.__class__ is not bool] + [0, 1, 10 ** 5000, endless()]:
            self.refused_row([(0, value)])
            for at in [0, 20, 39]:
                self.refused_row(good[:at] + [(at, value)] + good[at + 1:])

    def test_a_place_twice_or_missing(self):
        self.refused_row([(1, False)])
        self.refused_row([(0, False), (0, True)])
        self.refused_row([(0, False), (2, True)])
        self.refused_row([(0, False), (1, True), (1, False)])
        good = [(place, False) for place in range(40)]
        for at in range(39):
            self.refused_row(good[:at] + [(39, False)] + good[at + 1:])
            self.refused_row(good[:at] + good[at + 1:])

    def test_the_first_one_with_true(self):
        self.refused_row([(0, True)])
        self.refused_row([(1, True), (0, False)])
        self.refused_row([(1, True), (0, True)])
        self.refused_row([(place, True) for place in range(40)])
        self.refused_row([(place, place == 0) for place in range(40)])

    def test_the_pair_the_other_way_round(self):
        self.refused_row([(False, 0)])
        self.refused_row([(0, False), (True, 1)])


class CountsDoorTest(RefusedCase):
    def refused_counts(self, counts):
        self.refused(BadCounts, by_counts, counts)

    def test_no_list(self):
        for counts in no_lists() + [(0,), (1, 1), {0}, {0: 0}, "0", b"00", range(1), iter([0])]:
            self.refused_counts(counts)

    def test_none_and_too_many(self):
        self.refused_counts([])
        self.refused_counts([0] * 41)
        self.refused_counts([40] * 41)
        self.refused_counts([0] * 1000)
        self.refused_counts([1] * 41)

    def test_items_that_are_no_counts(self):
        for value in no_numbers() + [-1, -2 ** 64, -10 ** 5000, endless()]:
            self.refused_counts([value])
            for counts in list(with_item_for_another([0] * 40, value)) + list(with_item([39] * 39, value)):
                self.refused_counts(counts)

    def test_counts_are_told_before_no_tipweb(self):
        for value in [None, True, False, -1, 1.0, "1", -10 ** 5000]:
            for counts in with_item([1, 1, 1, 1, 10 ** 5000], value):
                self.refused_counts(counts)
        self.refused_counts([10 ** 5000] * 41)

    def test_no_tipweb_has_them(self):
        for counts in [[1], [1, 1, 1, 1], [10 ** 5000], [40] * 40]:
            self.refused(NoTip, by_counts, counts)


class NumberDoorTest(RefusedCase):
    def test_wrong_places(self):
        for places in no_numbers() + OUT_OF_RANGE + [endless()]:
            self.refused(BadPlaces, kind_by, places, 0)

    def test_wrong_numbers(self):
        for number in no_numbers() + [endless(), -1, 2 ** 39, 2 ** 64, -2 ** 64, 10 ** 5000, -10 ** 5000]:
            for places in [1, 2, 5, 40]:
                self.refused(BadNumber, kind_by, places, number)

    def test_one_number_too_many(self):
        for places in range(1, 41):
            self.refused(BadNumber, kind_by, places, 2 ** (places - 1))

    def test_places_are_told_before_the_number(self):
        for places in [None, "4", True, 4.0, [4], 0, 41, -1, 10 ** 5000]:
            for number in no_numbers() + [-1, 2 ** 64, 10 ** 5000]:
                self.refused(BadPlaces, kind_by, places, number)


class NothingTooNarrowTest(unittest.TestCase):
    def test_what_is_right_is_not_refused(self):
        ties = by_weights([5, 3, 1, 4, 2], 6)
        for door in WEB_DOORS:
            for places, right in [(1, []), (5, ties), (5, ties[::-1]), (40, []), (40, all_ties(40))]:
                self.assertIsNotNone(door(places, right))
        self.assertEqual(by_row([(39 - place, False) for place in range(40)]), [])
        self.assertEqual(by_counts([39] * 40), all_ties(40))
        self.assertEqual(kind_by(40, 2 ** 39 - 1), all_ties(40))


if __name__ == "__main__":
    unittest.main()
