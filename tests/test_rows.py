"""Place by place, by point 3: rows of tipwebs and tipwebs of rows."""

import itertools
import unittest

from samples import all_ties, big_tipwebs, by_words, each_barred_web, each_row, each_tipweb, mixed, renumbered
from tipwebs.errors import NoTip
from tipwebs.rows import by_row, row_of


class RowOfTest(unittest.TestCase):
    def right(self, places, ties):
        """A row is told, it is one of the web, and the same one each time and whatever turn the ties come in."""
        row = row_of(places, ties)
        self.assertIs(type(row), list)
        self.assertEqual([type(step) for step in row], [tuple] * places)
        self.assertEqual([(type(place), type(truth)) for place, truth in row], [(int, bool)] * places)
        self.assertEqual(sorted(place for place, truth in row), list(range(places)))
        self.assertIs(row[0][1], False)
        self.assertEqual(by_words(row), sorted(ties))
        for again in [ties, ties[::-1], mixed(ties, 1), mixed(ties, 2)]:
            self.assertEqual(row_of(places, again), row)

    def test_each_tipweb_of_few_places(self):
        for places in range(1, 6):
            for ties in each_tipweb(places):
                self.right(places, ties)

    def test_each_turn_of_the_ties(self):
        ties = [(0, 1), (0, 2), (0, 3), (1, 2), (0, 4)]
        for turn in itertools.permutations(ties):
            self.assertEqual(row_of(5, list(turn)), row_of(5, ties))

    def test_each_other_web_of_few_places_is_refused(self):
        for places in range(4, 6):
            for ties in each_barred_web(places):
                self.assertRaises(NoTip, row_of, places, ties)

    def test_one_place(self):
        self.assertEqual(row_of(1, []), [(0, False)])

    def test_forty_places(self):
        for ties in big_tipwebs():
            self.right(40, ties)
            self.right(40, renumbered(ties, mixed(range(40))))

    def test_no_ties_and_all_ties(self):
        for places in range(1, 41):
            self.right(places, [])
            self.right(places, all_ties(places))
            none, everything = row_of(places, []), row_of(places, all_ties(places))
            self.assertEqual([truth for place, truth in none], [False] * places)
            self.assertEqual([truth for place, truth in everything], [False] + [True] * (places - 1))

    def test_other_webs_of_forty_places_are_refused(self):
        for ties in [[(0, 1), (2, 3)], [(0, 20), (19, 39)], [(place, place + 1) for place in range(39)],
                     [pair for pair in all_ties(40) if pair not in [(0, 1), (38, 39)]]]:
            self.assertRaises(NoTip, row_of, 40, ties)


class ByRowTest(unittest.TestCase):
    def right(self, row):
        ties = by_row(row)
        self.assertIs(type(ties), list)
        self.assertEqual(ties, by_words(row))
        self.assertEqual({type(tie) for tie in ties} | {tuple}, {tuple})
        self.assertEqual({type(place) for tie in ties for place in tie} | {int}, {int})

    def test_each_row_of_few_places(self):
        for places in range(1, 6):
            for row in each_row(places):
                self.right(row)

    def test_by_hand(self):
        self.assertEqual(by_row([(0, False)]), [])
        self.assertEqual(by_row([(1, False), (0, True)]), [(0, 1)])
        self.assertEqual(by_row([(1, False), (0, False)]), [])
        self.assertEqual(by_row([(2, False), (0, False), (1, True)]), [(0, 1), (1, 2)])
        self.assertEqual(by_row([(3, False), (2, True), (1, False), (0, True)]), [(0, 1), (0, 2), (0, 3), (2, 3)])

    def test_each_tipweb_has_the_rows_that_give_it(self):
        for places in range(1, 6):
            given = {tuple(by_row(row)) for row in each_row(places)}
            self.assertEqual(given, {tuple(ties) for ties in each_tipweb(places)})

    def test_there_and_back_of_six_places(self):
        for row in each_row(6):
            ties = by_row(row)
            self.assertEqual(by_row(row_of(6, ties)), ties)

    def test_forty_places(self):
        for seed in range(20):
            truths = [False] + mixed([True, False] * 19 + [seed % 2 == 0], seed)
            row = list(zip(mixed(range(40), seed), truths))
            self.assertEqual(len(row), 40)
            self.right(row)
        self.right([(place, place > 0) for place in range(40)])
        self.right([(place, False) for place in range(40)[::-1]])
        self.right([(place, place < 39) for place in range(40)[::-1]])


if __name__ == "__main__":
    unittest.main()
