"""Weighed or barred, by point 2: each web of few places, some of forty, held against the point's own words."""

import itertools
import unittest

from samples import all_ties, bars, big_tipwebs, by_weights, each_web, is_nested, mixed, renumbered
from tipwebs.answers import Barred, Weighed
from tipwebs.weighing import told


class ToldCase(unittest.TestCase):
    def right(self, places, ties):
        """What is told of the web is right by point 2's own words; it is told again."""
        answer = told(places, ties)
        if type(answer) is Weighed:
            self.right_weights(answer, places, ties)
        else:
            self.assertIs(type(answer), Barred)
            self.right_four(answer, places, ties)
        self.assertIs(answer.shows(places, ties), True)
        return answer

    def right_weights(self, answer, places, ties):
        self.assertEqual(list(vars(answer)), ["weights", "bound"])
        self.assertIs(type(answer.weights), list)
        self.assertEqual([type(value) for value in answer.weights + [answer.bound]], [int] * (places + 1))
        self.assertEqual([weight for weight in answer.weights if weight < 0], [])
        self.assertGreaterEqual(answer.bound, 1)
        self.assertEqual(by_weights(answer.weights, answer.bound), sorted(ties))

    def right_four(self, answer, places, ties):
        self.assertEqual(list(vars(answer)), ["four"])
        self.assertIs(type(answer.four), list)
        self.assertEqual([type(place) for place in answer.four], [int] * 4)
        self.assertEqual(len(set(answer.four) & set(range(places))), 4)
        self.assertTrue(bars(answer.four, ties))


class FewPlacesTest(ToldCase):
    def test_each_web_a_weighed_just_where_no_four_bar(self):
        for places in range(1, 6):
            fours = list(itertools.permutations(range(places), 4))
            for ties in each_web(places):
                barred = any(bars(four, ties) for four in fours)
                self.assertIs(type(self.right(places, ties)), Barred if barred else Weighed, ties)

    def test_each_web_against_a_search_for_weights(self):
        for places in range(1, 6):
            bound = 2 * places
            found = {tuple(by_weights(weights, bound)) for weights in itertools.product(range(bound), repeat=places)}
            weighed = {tuple(ties) for ties in each_web(places) if isinstance(told(places, ties), Weighed)}
            self.assertEqual(weighed, found)

    def test_each_web_of_six_places(self):
        many = sum(type(self.right(6, ties)) is Weighed for ties in each_web(6))
        self.assertEqual(many, 2874)

    def test_by_hand(self):
        self.assertIsInstance(told(1, []), Weighed)
        self.assertIsInstance(told(3, [(0, 1), (1, 2)]), Weighed)
        self.assertIsInstance(told(4, [(0, 1), (2, 3)]), Barred)
        self.assertIsInstance(told(4, [(0, 1), (1, 2), (2, 3)]), Barred)
        self.assertIsInstance(told(4, [(0, 1), (1, 2), (2, 3), (0, 3)]), Barred)
        self.assertIsInstance(told(5, [(0, 1), (1, 2), (0, 2), (3, 4)]), Barred)

    def test_ties_in_any_turn(self):
        for ties in [[(0, 1), (1, 2), (2, 3), (1, 3)], [(0, 1), (1, 2), (2, 3), (3, 4)], [(0, 4), (1, 4), (2, 3)]]:
            first = vars(told(5, ties))
            for turn in itertools.permutations(ties):
                self.assertEqual(vars(self.right(5, list(turn))), first)


class FortyPlacesTest(ToldCase):
    def test_webs_by_weights_and_renumbered(self):
        for ties in big_tipwebs():
            for web in [ties, mixed(ties), renumbered(ties, mixed(range(40), 3)), renumbered(ties, range(40)[::-1])]:
                self.assertIs(type(self.right(40, web)), Weighed)

    def test_weights_far_apart(self):
        weights = [2 ** place if place & 1 else 2 ** 40 - 2 ** place for place in range(40)]
        for bound in [1, 2 ** 20, 2 ** 39, 2 ** 40, 2 ** 40 + 1, 2 ** 41]:
            ties = by_weights(mixed(weights), bound)
            self.assertIs(type(self.right(40, ties)), Weighed)

    def test_one_tie_more_or_less(self):
        kinds = {Weighed: 0, Barred: 0}
        for ties in big_tipwebs():
            for pair in all_ties(40)[::13]:
                web = [tie for tie in ties if tie != pair] if pair in ties else ties + [pair]
                answer = self.right(40, web)
                self.assertIs(type(answer), Weighed if is_nested(40, web) else Barred)
                kinds[type(answer)] += 1
        self.assertGreater(min(kinds.values()), 20)

    def test_no_ties_and_all_ties_of_any_places(self):
        for places in range(1, 41):
            self.assertIs(type(self.right(places, [])), Weighed)
            self.assertIs(type(self.right(places, all_ties(places))), Weighed)

    def test_two_ties_apart(self):
        for pairs in [[(0, 1), (2, 3)], [(0, 39), (1, 38)], [(36, 37), (38, 39)], [(0, 20), (19, 39)]]:
            self.assertIs(type(self.right(40, pairs)), Barred)
            without = [pair for pair in all_ties(40) if pair not in pairs]
            self.assertIs(type(self.right(40, without)), Barred)

    def test_rings_and_paths(self):
        path = [(place, place + 1) for place in range(39)]
        self.assertIs(type(self.right(40, path)), Barred)
        self.assertIs(type(self.right(40, path + [(0, 39)])), Barred)
        self.assertIs(type(self.right(40, [(0, place) for place in range(1, 40)])), Weighed)

    def test_ties_in_any_turn(self):
        for ties in big_tipwebs() + [[(0, 1), (2, 3), (4, 5)], all_ties(40)[::3]]:
            first = vars(told(40, ties))
            for seed in range(3):
                self.assertEqual(vars(told(40, mixed(ties, seed))), first)


if __name__ == "__main__":
    unittest.main()
