"""shows of Weighed and Barred, by point 2."""

import itertools
import unittest

from samples import ShowsCase, all_ties, each_web, no_lists, no_numbers
from tipwebs.answers import Barred, Weighed

# Forty places of weights 0 to 39 and bound 40: two are tied just if together they come to 40.
STEPS = [(low, high) for low, high in all_ties(40) if low + high >= 40]
# Forty places in twenty tied twos.
TWOS = [(low, low + 1) for low in range(0, 40, 2)]


def changed(place, more, times):
    """The weights of STEPS so many times, one of them by so much more."""
    weights = [times * weight for weight in range(40)]
    weights[place] += more
    return weights


class WeighedTest(ShowsCase):
    def test_one_place(self):
        for weight in [0, 1, 5, 10 ** 5000]:
            self.told(True, Weighed([weight], 1), 1, [])
        self.told(False, Weighed([-1], 1), 1, [])
        self.told(False, Weighed([0], 0), 1, [])
        self.told(False, Weighed([], 1), 1, [])
        self.told(False, Weighed([0, 0], 1), 1, [])

    def test_by_hand(self):
        self.told(True, Weighed([1, 1, 0], 2), 3, [(0, 1)])
        self.told(True, Weighed([2, 1, 1], 3), 3, [(0, 2), (0, 1)])
        self.told(False, Weighed([2, 1, 1], 3), 3, [(0, 1)])
        self.told(False, Weighed([2, 1, 1], 3), 3, [(0, 1), (0, 2), (1, 2)])
        self.told(False, Weighed([2, 1, 1], 2), 3, [(0, 1), (0, 2)])
        self.told(False, Weighed([2, 1, 1], 4), 3, [(0, 1), (0, 2)])

    def test_no_weight_is_counted_with_itself(self):
        self.told(True, Weighed([5, 0], 6), 2, [])
        self.told(True, Weighed([5, 1], 6), 2, [(0, 1)])

    def test_each_web_and_weights_of_few_places(self):
        for places in [1, 2, 3]:
            for ties in each_web(places):
                for weights in itertools.product(range(-1, 3), repeat=places):
                    for bound in range(-1, 6):
                        truth = bound >= 1 and min(weights) >= 0 and set(ties) == {
                            (low, high) for low, high in all_ties(places) if weights[low] + weights[high] >= bound}
                        self.told(truth, Weighed(list(weights), bound), places, ties)

    def test_no_weights_fit_a_barred_web(self):
        for weights in itertools.product(range(4), repeat=4):
            for bound in range(1, 8):
                self.told(False, Weighed(list(weights), bound), 4, [(0, 1), (2, 3)])

    def test_forty_places(self):
        self.told(True, Weighed(list(range(40)), 40), 40, STEPS)
        self.told(True, Weighed(list(range(40)), 40), 40, STEPS[::-1])
        self.told(True, Weighed([0] * 40, 1), 40, [])
        self.told(True, Weighed([1] * 40, 2), 40, all_ties(40))
        self.told(False, Weighed([1] * 40, 2), 40, all_ties(40)[1:])
        self.told(False, Weighed([1] * 40, 2), 40, all_ties(40)[:-1])
        self.told(False, Weighed([0] * 40, 1), 40, [(38, 39)])

    def test_one_weight_one_more_or_less(self):
        for place in range(40):
            self.told(False, Weighed(changed(place, 1, 1), 40), 40, STEPS)
            # Only place 20 comes to 40 with no other place.
            self.told(place == 20, Weighed(changed(place, -1, 1), 40), 40, STEPS)

    def test_one_weight_one_more_or_less_where_there_is_room(self):
        for place in range(40):
            self.told(True, Weighed(changed(place, 1, 2), 80), 40, STEPS)
            self.told(place == 20, Weighed(changed(place, -1, 2), 80), 40, STEPS)
            self.told(False, Weighed(changed(place, 1, 2), 79), 40, STEPS)
            self.told(place != 0, Weighed(changed(place, -1, 2), 79), 40, STEPS)

    def test_a_bound_one_more_or_less(self):
        self.told(False, Weighed(list(range(40)), 39), 40, STEPS)
        self.told(False, Weighed(list(range(40)), 41), 40, STEPS)

    def test_a_weight_below_0(self):
        for place in range(40):
            weights = [0] * 40
            weights[place] = -1
            self.told(False, Weighed(weights, 1), 40, [])
        self.told(False, Weighed([-1, 3], 2), 2, [(0, 1)])
        self.told(False, Weighed([-10 ** 5000, 0], 1), 2, [])

    def test_a_bound_of_0_and_below(self):
        for bound in [0, -1, -10 ** 5000]:
            self.told(False, Weighed([0] * 40, bound), 40, all_ties(40))
            self.told(False, Weighed([0, 0], bound), 2, [(0, 1)])
            self.told(False, Weighed([5], bound), 1, [])

    def test_too_few_and_too_many_weights(self):
        for many in [0, 1, 39, 41, 80]:
            self.told(False, Weighed([0] * many, 1), 40, [])
        self.told(False, Weighed([1], 2), 2, [(0, 1)])
        self.told(False, Weighed([1, 1, 1], 2), 2, [(0, 1)])

    def test_very_large_numbers(self):
        large = 10 ** 5000
        self.told(True, Weighed([large, 0, 1], large + 1), 3, [(0, 2)])
        self.told(False, Weighed([large, 0, 1], large), 3, [(0, 2)])

    def test_by_the_fields_as_they_stand(self):
        answer = Weighed([1, 1], 2)
        self.told(True, answer, 2, [(0, 1)])
        answer.bound = 3
        self.told(False, answer, 2, [(0, 1)])
        self.told(True, answer, 2, [])
        answer.weights[1] = 2
        self.told(True, answer, 2, [(0, 1)])
        answer.weights.append(0)
        self.told(False, answer, 2, [(0, 1)])
        self.told(True, answer, 3, [(0, 1)])
        answer.weights = [0]
        self.told(True, answer, 1, [])

    def test_what_is_no_number_is_no_weight_and_no_bound(self):
        for value in no_numbers():
            self.assertIs(Weighed([1, value], 2).shows(2, [(0, 1)]), False)
            self.assertIs(Weighed([1, 1], value).shows(2, [(0, 1)]), False)
        for value in no_lists():
            self.assertIs(Weighed(value, 1).shows(1, []), False)


class BarredTest(ShowsCase):
    def test_a_right_four_turned_about(self):
        ties = [(0, 1), (2, 3)]
        right = [[0, 1, 2, 3], [1, 0, 3, 2], [2, 3, 0, 1], [3, 2, 1, 0], [0, 1, 3, 2], [1, 0, 2, 3], [2, 3, 1, 0],
                 [3, 2, 0, 1]]
        for four in itertools.permutations(range(4)):
            self.told(list(four) in right, Barred(list(four)), 4, ties)

    def test_a_tie_across_leaves_one_way_round(self):
        # First to fourth and second to third may be tied or not.
        for more in [[], [(0, 3)], [(1, 2)], [(0, 3), (1, 2)]]:
            self.told(True, Barred([0, 1, 2, 3]), 4, [(0, 1), (2, 3)] + more)
        self.told(False, Barred([0, 1, 2, 3]), 4, [(0, 1), (2, 3), (0, 2)])
        self.told(False, Barred([0, 1, 2, 3]), 4, [(0, 1), (2, 3), (1, 3)])
        self.told(False, Barred([0, 1, 2, 3]), 4, [(0, 1)])
        self.told(False, Barred([0, 1, 2, 3]), 4, [(2, 3)])
        self.told(False, Barred([0, 1, 2, 3]), 4, [])
        self.told(False, Barred([0, 1, 2, 3]), 4, all_ties(4))

    def test_each_web_and_four_of_four_places(self):
        for ties in each_web(4):
            both = set(ties) | {(high, low) for low, high in ties}
            for four in itertools.product(range(-1, 5), repeat=4):
                truth = (sorted(four) == [0, 1, 2, 3] and {four[:2], four[2:]} <= both
                         and not {four[0::2], four[1::2]} & both)
                self.assertIs(Barred(list(four)).shows(4, ties), truth, (four, ties))

    def test_forty_places(self):
        self.told(True, Barred([0, 1, 2, 3]), 40, TWOS)
        self.told(True, Barred([39, 38, 36, 37]), 40, TWOS[::-1])
        self.told(True, Barred([0, 1, 39, 38]), 40, TWOS)
        self.told(False, Barred([0, 2, 1, 3]), 40, TWOS)
        self.told(False, Barred([1, 2, 3, 4]), 40, TWOS)
        for four in [[0, 1, 2, 3], [36, 37, 38, 39], [0, 39, 20, 21]]:
            self.told(False, Barred(four), 40, [])
            self.told(False, Barred(four), 40, all_ties(40))
            self.told(False, Barred(four), 40, STEPS)

    def test_places_alike(self):
        for four in [[0, 1, 0, 1], [0, 1, 1, 0], [0, 1, 2, 2], [0, 0, 2, 3], [0, 1, 2, 0], [0, 1, 2, 1], [0, 0, 0, 0]]:
            for ties in each_web(4):
                self.assertIs(Barred(four).shows(4, ties), False)
        self.told(False, Barred([0, 1, 1, 0]), 2, [(0, 1)])

    def test_places_out_of_range_and_below_0(self):
        for four in [[0, 1, 2, 4], [4, 1, 2, 3], [0, 1, 2, -1], [-4, 1, 2, 3], [-4, -3, -2, -1], [0, 1, 2, 10 ** 5000]]:
            self.told(False, Barred(four), 4, [(0, 1), (2, 3)])
        self.told(False, Barred([0, 1, 38, -1]), 40, TWOS)
        self.told(False, Barred([0, 1, 40, 41]), 40, TWOS)
        self.told(False, Barred([0, 1, 2, 3]), 3, [(0, 1)])

    def test_too_few_and_too_many(self):
        for four in [[], [0], [0, 1], [0, 1, 2], [0, 1, 2, 3, 4], [0, 1, 2, 3, 3], [0, 1, 2, 3, 4, 5], [0] * 99]:
            self.told(False, Barred(four), 40, TWOS)
        self.told(False, Barred([0, 1, 2]), 3, [(0, 1)])

    def test_by_the_fields_as_they_stand(self):
        answer = Barred([0, 1, 2, 3])
        self.told(True, answer, 4, [(0, 1), (2, 3)])
        answer.four[1], answer.four[2] = 2, 1
        self.told(False, answer, 4, [(0, 1), (2, 3)])
        self.told(True, answer, 4, [(0, 2), (1, 3)])
        answer.four.append(0)
        self.told(False, answer, 4, [(0, 2), (1, 3)])
        answer.four = [3, 2, 1, 0]
        self.told(True, answer, 4, [(0, 1), (2, 3)])

    def test_what_is_no_number_is_no_place(self):
        for value in no_numbers():
            self.assertIs(Barred([0, value, 2, 3]).shows(4, [(0, 1), (2, 3)]), False)
        for value in no_lists():
            self.assertIs(Barred(value).shows(4, [(0, 1), (2, 3)]), False)


if __name__ == "__main__":
    unittest.main()
