"""Counts alone, by point 4: the ties of a tipweb by its counts, and counts that no tipweb has."""

import itertools
import unittest

from samples import all_ties, big_tipwebs, counts_by, each_barred_web, each_tipweb, mixed, renumbered
from tipwebs.errors import NoTip
from tipwebs.rows import by_counts


class ByCountsTest(unittest.TestCase):
    def right(self, places, ties):
        told = by_counts(counts_by(places, ties))
        self.assertIs(type(told), list)
        self.assertEqual(told, sorted(ties))
        self.assertEqual([type(tie) for tie in told], [tuple] * len(ties))

    def test_each_tipweb_of_few_places(self):
        for places in range(1, 6):
            for ties in each_tipweb(places):
                self.right(places, ties)

    def test_each_other_web_of_few_places_is_refused(self):
        for places in range(4, 6):
            for ties in each_barred_web(places):
                self.assertRaises(NoTip, by_counts, counts_by(places, ties))

    def test_any_small_counts(self):
        for places in range(1, 5):
            known = {tuple(counts_by(places, ties)): ties for ties in each_tipweb(places)}
            for counts in itertools.product(range(places + 2), repeat=places):
                if counts in known:
                    self.assertEqual(by_counts(list(counts)), known[counts])
                else:
                    self.assertRaises(NoTip, by_counts, list(counts))

    def test_by_hand(self):
        self.assertEqual(by_counts([0]), [])
        self.assertEqual(by_counts([1, 1]), [(0, 1)])
        self.assertEqual(by_counts([1, 2, 1]), [(0, 1), (1, 2)])
        self.assertEqual(by_counts([0, 2, 3, 2, 1]), [(1, 2), (1, 3), (2, 3), (2, 4)])

    def test_counts_that_no_web_has(self):
        for counts in [[1], [2], [0, 1], [1, 0], [2, 2], [1, 1, 1], [0, 2, 2], [0, 0, 2], [3, 3, 1, 1], [0, 1, 2, 3],
                       [4, 4, 4, 4], [3, 3, 3, 0], [1, 1, 1, 1, 1], [0] * 39 + [1], [39] * 39 + [38], [40] * 40,
                       [39] + [0] * 39, [39] * 20 + [0] * 20]:
            self.assertRaises(NoTip, by_counts, counts)

    def test_counts_that_only_other_webs_have(self):
        for counts in [[1, 1, 1, 1], [2, 2, 2, 2], [1, 2, 2, 1], [2, 2, 2, 2, 2], [1] * 40, [2] * 40, [38] * 40]:
            self.assertRaises(NoTip, by_counts, counts)

    def test_very_large_counts(self):
        for large in [41, 2 ** 64, 10 ** 5000]:
            for counts in [[large], [large, large], [0, large], [large, 0], [1, large, 1], [large] * 40,
                           [0] * 39 + [large], [large] + [39] * 39]:
                self.assertRaises(NoTip, by_counts, counts)

    def test_forty_places(self):
        for ties in big_tipwebs():
            self.right(40, ties)
            self.right(40, renumbered(ties, mixed(range(40))))

    def test_one_count_more_or_less_of_forty_places(self):
        for ties in big_tipwebs():
            counts = counts_by(40, ties)
            for place in range(40):
                for change in [1, -1]:
                    near = counts[:place] + [counts[place] + change] + counts[place + 1:]
                    if near[place] >= 0:
                        self.assertRaises(NoTip, by_counts, near)

    def test_no_ties_and_all_ties(self):
        for places in range(1, 41):
            self.assertEqual(by_counts([0] * places), [])
            self.assertEqual(by_counts([places - 1] * places), all_ties(places))


if __name__ == "__main__":
    unittest.main()
