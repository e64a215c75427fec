"""Kinds, by point 5: the web of a number, the number of a web."""

import itertools
import unittest

from samples import RefusedCase, all_ties, big_tipwebs, by_words, each_barred_web, each_tipweb, mixed, renumbered
from tipwebs.errors import BadNumber, BadPlaces, NoTip
from tipwebs.kinds import kind_by, number_of


def by_number(places, number):
    """The ties by point 5's own words: a place of which the number holds what it brings is tied to all below it."""
    brings = {place: 2 ** (place - 1) for place in range(1, places)}
    return by_words([(place, place > 0 and number // brings[place] % 2 == 1) for place in range(places)])


class KindByTest(RefusedCase):
    def right(self, places, number):
        ties = kind_by(places, number)
        self.assertIs(type(ties), list)
        self.assertEqual(ties, by_number(places, number))
        told = number_of(places, ties)
        self.assertIs(type(told), int)
        self.assertEqual(told, number)

    def test_each_number_of_few_places_there_and_back(self):
        for places in range(1, 7):
            for number in range(2 ** (places - 1)):
                self.right(places, number)

    def test_by_hand(self):
        self.assertEqual(kind_by(1, 0), [])
        self.assertEqual([kind_by(2, number) for number in range(2)], [[], [(0, 1)]])
        self.assertEqual([kind_by(3, number) for number in range(4)],
                         [[], [(0, 1)], [(0, 2), (1, 2)], [(0, 1), (0, 2), (1, 2)]])
        self.assertEqual(kind_by(4, 5), [(0, 1), (0, 3), (1, 3), (2, 3)])

    def test_numbers_of_forty_places(self):
        last = 2 ** 39 - 1
        for number in [0, 1, 2, 3, last // 3, last // 3 * 2, last // 7, 2 ** 38 - 1, 2 ** 38, 123456789012, last - 1,
                       last]:
            self.right(40, number)
        for place in range(39):
            self.right(40, 2 ** place)
        self.assertEqual(kind_by(40, 0), [])
        self.assertEqual(kind_by(40, last), all_ties(40))

    def test_the_first_and_the_last_number_of_any_places(self):
        for places in range(1, 41):
            self.right(places, 0)
            self.right(places, 2 ** (places - 1) - 1)

    def test_numbers_out_of_range_are_refused(self):
        for places in range(1, 41):
            for number in [2 ** (places - 1), 2 ** places, 2 ** (places - 1) + 1, -1, -2 ** (places - 1), 10 ** 5000,
                           -10 ** 5000]:
                self.refused(BadNumber, kind_by, places, number)

    def test_places_out_of_range_are_refused(self):
        for places in [0, 41, True, False, -1, 10 ** 5000]:
            for number in [0, 1, -1, 2 ** 39, None]:
                self.refused(BadPlaces, kind_by, places, number)


class NumberOfTest(RefusedCase):
    def test_renumbered_webs_have_one_number(self):
        for places in range(1, 6):
            for number in range(2 ** (places - 1)):
                for names in itertools.permutations(range(places)):
                    self.assertEqual(number_of(places, renumbered(kind_by(places, number), names)), number)

    def test_webs_of_one_number_are_of_one_kind(self):
        for places in range(1, 6):
            webs = {number: set() for number in range(2 ** (places - 1))}
            for ties in each_tipweb(places):
                webs[number_of(places, ties)].add(tuple(ties))
            for number, alike in webs.items():
                ties, orders = kind_by(places, number), itertools.permutations(range(places))
                self.assertEqual(alike, {tuple(renumbered(ties, names)) for names in orders})

    def test_renumbered_webs_of_forty_places(self):
        for ties in big_tipwebs():
            number = number_of(40, ties)
            self.assertIn(number, range(2 ** 39))
            for seed in range(3):
                self.assertEqual(number_of(40, mixed(renumbered(ties, mixed(range(40), seed)))), number)
        for number in [1, 2 ** 38, 2 ** 39 // 5, 2 ** 39 - 2]:
            for seed in range(3):
                self.assertEqual(number_of(40, renumbered(kind_by(40, number), mixed(range(40), seed))), number)

    def test_other_webs_are_refused(self):
        for places in range(4, 6):
            for ties in each_barred_web(places):
                self.refused(NoTip, number_of, places, ties)


if __name__ == "__main__":
    unittest.main()
