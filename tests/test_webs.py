"""What a web is by point 1: what are no places, what are no ties, and places told before ties."""

import collections
import copy
import itertools
import unittest

from samples import all_ties, each_web, endless, no_lists, no_numbers
from tipwebs.errors import BadPlaces, BadTies
from tipwebs.webs import check_places, check_ties, check_web, is_number, is_place, tied_both_ways

GOOD = [(1, 2), (0, 2), (2, 3)]


class PlacesTest(unittest.TestCase):
    def test_each_count_from_1_to_40_is_one(self):
        for places in range(1, 41):
            self.assertIsNone(check_places(places))
            self.assertIsNone(check_web(places, []))

    def test_numbers_out_of_range_are_refused(self):
        for places in [0, 41, 42, 100, -1, -40, 2 ** 64, -2 ** 64, 10 ** 5000, -10 ** 5000]:
            self.refused(places)

    def test_what_is_no_number_is_refused(self):
        for places in no_numbers() + [endless()]:
            self.refused(places)

    def refused(self, places):
        with self.assertRaises(BadPlaces):
            check_places(places)
        with self.assertRaises(BadPlaces):
            check_web(places, [])


class TiesTest(unittest.TestCase):
    def test_no_ties_and_all_ties(self):
        for places in [1, 2, 3, 39, 40]:
            self.assertIsNone(check_web(places, []))
            self.assertIsNone(check_web(places, all_ties(places)))

    def test_each_web_of_few_places(self):
        for places in range(1, 5):
            for ties in each_web(places):
                self.assertIsNone(check_web(places, ties))

    def test_a_bad_item_alone_is_refused(self):
        for item in [None, 0, [0, 1], (0,), (0, 1, 2), (0, 5), (-1, 0), (False, True), (2, 2), (3, 1)]:
            self.refused(5, [item])

    def test_ties_in_any_turn(self):
        for ties in itertools.permutations([(0, 1), (0, 2), (1, 2), (2, 3)]):
            self.assertIsNone(check_web(4, list(ties)))
        self.assertIsNone(check_web(40, all_ties(40)[::-1]))

    def test_what_is_no_list_is_refused(self):
        for ties in no_lists() + [((0, 1),), {(0, 1)}, {(0, 1): True}, iter([(0, 1)])]:
            self.refused(3, ties)
            self.refused(1, ties)

    def test_an_item_that_is_no_tuple_is_refused(self):
        for item in no_numbers() + [endless(), 0, 7, 10 ** 5000, [0, 1], "01", b"01", {0, 1}, {0: 1, 1: 0}, range(2)]:
            self.refused_anywhere(item)

    def test_a_tuple_not_of_two_is_refused(self):
        for item in [(), (0,), (0, 1, 2), (0, 1, 1), ((0, 1),), ((0, 1), (0, 2)), tuple(range(40))]:
            self.refused_anywhere(item)

    def test_a_place_out_of_range_is_refused(self):
        for item in [(0, 5), (4, 5), (0, 40), (5, 6), (-1, 0), (-1, 4), (-2, -1), (-5, 4), (0, 10 ** 5000),
                     (-10 ** 5000, 0), (-10 ** 5000, 10 ** 5000)]:
            self.refused_anywhere(item)
        self.refused(1, [(0, 1)])
        self.refused(1, [(0, 0)])
        self.refused(40, all_ties(40) + [(39, 40)])

    def test_a_place_that_is_no_number_is_refused(self):
        for value in no_numbers() + [endless()]:
            self.refused_anywhere((0, value))
            self.refused_anywhere((value, 3))
            self.refused_anywhere((value, value))

    def test_two_alike_places_are_refused(self):
        for place in range(5):
            self.refused_anywhere((place, place))

    def test_the_greater_place_first_is_refused(self):
        for low, high in all_ties(5):
            self.refused_anywhere((high, low))

    def test_a_pair_twice_is_refused(self):
        for tie in GOOD:
            self.refused_anywhere(tie)
        for tie in [(0, 1), (17, 23), (38, 39)]:
            self.refused(40, all_ties(40) + [tie])

    def refused_anywhere(self, item):
        """The item is refused first, last and in the middle of good ties of five places."""
        for at in range(len(GOOD) + 1):
            self.refused(5, GOOD[:at] + [item] + GOOD[at:])

    def refused(self, places, ties):
        with self.assertRaises(BadTies):
            check_web(places, ties)
        with self.assertRaises(BadTies):
            check_ties(places, ties)


class BothTest(unittest.TestCase):
    def test_places_are_told_before_ties(self):
        for places in no_numbers() + [0, 41, -1, 10 ** 5000]:
            for ties in no_lists() + [[(0, 0)], [(1, 0)], [None], [(0, 1), (0, 1)]]:
                with self.assertRaises(BadPlaces):
                    check_web(places, ties)

    def test_nothing_handed_in_is_changed(self):
        for ties in [[(2, 3), (0, 1)], [(2, 3), (0, 1), (1, 0)], [(0, 1), [0, 2]], [(0, 1), (0, 1)]]:
            before = copy.deepcopy(ties)
            try:
                check_web(4, ties)
            except BadTies:
                pass
            self.assertEqual(ties, before)


class HelpersTest(unittest.TestCase):
    def test_numbers(self):
        for value in [0, 1, -1, 10 ** 5000]:
            self.assertIs(is_number(value), True)
        for value in no_numbers():
            self.assertIs(is_number(value), False)

    def test_places_of_a_web(self):
        self.assertEqual([value for value in range(-50, 50) if is_place(value, 40)], list(range(40)))
        for value in no_numbers():
            self.assertIs(is_place(value, 40), False)

    def test_a_pair_of_another_tuple_class_is_a_pair(self):
        pair = collections.namedtuple("Pair", "low high")
        self.assertIsNone(check_web(2, [pair(0, 1)]))
        with self.assertRaises(BadTies):
            check_web(2, [pair(0, 1), (0, 1)])

    def test_tied_both_ways_is_new_and_holds_each_tie_in_both_orders(self):
        ties = [(1, 2), (0, 3)]
        tied = tied_both_ways(ties)
        self.assertEqual(sorted(tied), [(0, 3), (1, 2), (2, 1), (3, 0)])
        tied.clear()
        self.assertEqual(sorted(tied_both_ways(ties)), [(0, 3), (1, 2), (2, 1), (3, 0)])
        self.assertEqual(ties, [(1, 2), (0, 3)])


if __name__ == "__main__":
    unittest.main()
