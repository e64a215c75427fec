"""shows of Crowd and Lonely, by point 6, of webs of any form."""

import itertools
import unittest

from samples import ShowsCase, all_ties, each_web, no_lists, no_numbers
from tipwebs.answers import Crowd, Lonely

# Forty places of weights 0 to 39 and bound 40: two are tied just if together they come to 40.
STEPS = [(low, high) for low, high in all_ties(40) if low + high >= 40]
# Forty places in twenty tied twos, and a ring of five: no tipwebs.
TWOS = [(low, low + 1) for low in range(0, 40, 2)]
RING = [(0, 1), (1, 2), (2, 3), (3, 4), (0, 4)]


def turned_over(places, ties):
    """The ties of the web in which just those two are tied that are not in this one."""
    return [tie for tie in all_ties(places) if tie not in ties]


def each_some(places):
    """Each list of at most three numbers, some of them no places."""
    for many in range(4):
        for some in itertools.product(range(-1, places + 1), repeat=many):
            yield list(some)


def each_groups(places):
    """Each list of at most three lists, in which all places stand once, in any order, cut up anywhere."""
    for order in itertools.permutations(range(places)):
        yield [list(order)]
        for cut in range(places + 1):
            yield [list(order[:cut]), list(order[cut:])]
            for other in range(cut, places + 1):
                yield [list(order[:cut]), list(order[cut:other]), list(order[other:])]


def right_crowd(some, groups, places, ties):
    """Point 6 of Crowd, said again in other words than the program's."""
    both = set(ties) | {(high, low) for low, high in ties}
    if some != sorted(set(some) & set(range(places))) or len(groups) != len(some):
        return False
    if any((one, other) not in both for one in some for other in some if one != other):
        return False
    for group in groups:
        if group != sorted(set(group)) or any((one, other) in both for one in group for other in group):
            return False
    return all(sum(group.count(place) for group in groups) == 1 for place in range(places)) and (
        sum(map(len, groups)) == places)


class CrowdsCase(ShowsCase):
    """Crowd and Lonely are one another's if tied and not tied change parts."""

    def both(self, truth, some, groups, places, ties):
        self.told(truth, Crowd(some, groups), places, ties)
        self.told(truth, Lonely(some, groups), places, turned_over(places, ties))


class ByHandTest(CrowdsCase):
    def test_one_place(self):
        for kind in [Crowd, Lonely]:
            self.told(True, kind([0], [[0]]), 1, [])
            for some, groups in [([], []), ([], [[0]]), ([0], []), ([0], [[]]), ([0], [[0], []]), ([0], [[0, 0]]),
                                 ([0, 0], [[0], [0]]), ([1], [[0]]), ([-1], [[0]]), ([0], [[-1]]), ([0], [[0, 1]])]:
                self.told(False, kind(some, groups), 1, [])

    def test_two_places(self):
        self.told(True, Crowd([0, 1], [[0], [1]]), 2, [(0, 1)])
        self.told(False, Crowd([0, 1], [[0], [1]]), 2, [])
        self.told(True, Lonely([0, 1], [[0], [1]]), 2, [])
        self.told(False, Lonely([0, 1], [[0], [1]]), 2, [(0, 1)])
        for one in [0, 1]:
            self.told(True, Crowd([one], [[0, 1]]), 2, [])
            self.told(False, Crowd([one], [[0, 1]]), 2, [(0, 1)])
            self.told(True, Lonely([one], [[0, 1]]), 2, [(0, 1)])
            self.told(False, Lonely([one], [[0, 1]]), 2, [])

    def test_groups_that_are_no_lonely_places_or_no_crowds(self):
        ties = [(0, 1), (1, 2), (0, 2), (2, 3)]
        self.told(True, Crowd([0, 1, 2], [[0, 3], [1], [2]]), 4, ties)
        self.told(True, Crowd([0, 1, 2], [[0], [1, 3], [2]]), 4, ties)
        self.told(False, Crowd([0, 1, 2], [[0], [1], [2, 3]]), 4, ties)
        self.told(False, Crowd([0, 1, 3], [[0, 3], [1], [2]]), 4, ties)
        self.told(True, Lonely([0, 3], [[0, 1], [2, 3]]), 4, ties)
        self.told(True, Lonely([1, 3], [[0, 1, 2], [3]]), 4, ties)
        self.told(False, Lonely([0, 3], [[0, 2], [1, 3]]), 4, ties)
        self.told(False, Lonely([2, 3], [[0, 1], [2, 3]]), 4, ties)

    def test_a_ring_of_five_has_no_such_groups(self):
        self.both(False, [0, 1], [[0, 2], [1, 3], [4]], 5, RING)
        self.both(False, [0, 1], [[0, 2], [1, 3]], 5, RING)
        self.both(False, [0, 1], [[0, 2], [1, 3, 4]], 5, RING)
        self.both(False, [0, 1, 4], [[0, 2], [1, 3], [4]], 5, RING)
        self.told(False, Lonely([0, 2], [[0, 1], [2, 3], [4]]), 5, RING)

    def test_a_ring_of_four(self):
        ring = [(0, 1), (1, 2), (2, 3), (0, 3)]
        self.both(True, [0, 1], [[0, 2], [1, 3]], 4, ring)
        self.both(True, [0, 3], [[1, 3], [0, 2]], 4, ring)
        self.both(False, [0, 2], [[0, 2], [1, 3]], 4, ring)
        self.both(False, [0, 1], [[0, 1], [2, 3]], 4, ring)

    def test_groups_in_another_turn(self):
        for groups in itertools.permutations([[0, 4], [1], [2], [3, 5]]):
            ties = [tie for tie in all_ties(6) if tie not in [(0, 4), (3, 5)]]
            self.both(True, [0, 1, 2, 3], list(groups), 6, ties)
            self.both(True, [1, 2, 4, 5], list(groups), 6, ties[::-1])

    def test_a_place_missing_twice_or_out_of_range(self):
        ties = [(0, 1)]
        self.both(True, [0, 1], [[0, 2], [1]], 3, ties)
        for groups in [[[0], [1]], [[2], [1]], [[0, 2], []], [[0, 2], [1, 2]], [[0, 2], [0, 1]], [[0, 2, 2], [1]],
                       [[0, 0, 2], [1]], [[0, 2], [1, 1]], [[0, 2, 3], [1]], [[0, 2], [1, 3]], [[0, 3], [1]],
                       [[-1, 0, 2], [1]], [[-1, 0], [1]], [[0, 2], [10 ** 5000]], [[0, 2], [-2]]]:
            self.both(False, [0, 1], groups, 3, ties)
        for some in [[0, 0], [1, 1], [0, 3], [1, 3], [-1, 0], [-3, 1], [0, 10 ** 5000], [-10 ** 5000, 1], [0, 2],
                     [0, 1, 1], [0, 0, 1]]:
            self.both(False, some, [[0, 2], [1]], 3, ties)
            self.both(False, some, [[0], [1], [2]], 3, ties)

    def test_lists_that_do_not_rise(self):
        self.both(False, [1, 0], [[0, 2], [1]], 3, [(0, 1)])
        self.both(False, [0, 1], [[2, 0], [1]], 3, [(0, 1)])
        self.both(False, [0, 2, 1], [[0, 3], [1], [2]], 4, [(0, 1), (1, 2), (0, 2)])
        self.both(False, [0], [[0, 2, 1, 3]], 4, [])
        self.both(False, [0], [[1, 0, 2, 3]], 4, [])
        self.both(False, [0], [[0, 1, 3, 2]], 4, [])

    def test_groups_too_many_too_few_and_empty(self):
        ties = [(0, 1), (0, 2), (1, 2)]
        self.both(True, [0, 1, 2], [[0, 3], [1], [2]], 4, ties)
        for groups in [[[0, 3], [1], [2], []], [[], [0, 3], [1], [2]], [[0], [1], [2], [3]], [[0, 3], [1, 2]],
                       [[0, 1, 2, 3]], [[0, 3], [1], []], [[0, 3], [1, 2], []], [[]], [], [[], [], []]]:
            self.both(False, [0, 1, 2], groups, 4, ties)
        for some in [[], [0], [0, 1]]:
            self.both(False, some, [[0, 3], [1], [2]], 4, ties)
            self.both(False, some, [[]] * len(some), 4, ties)

    def test_each_web_of_three_places(self):
        for ties in each_web(3):
            over = turned_over(3, ties)
            for some in each_some(3):
                for groups in each_groups(3):
                    truth = right_crowd(some, groups, 3, ties)
                    self.assertIs(Crowd(some, groups).shows(3, ties), truth, (some, groups, ties))
                    self.assertIs(Lonely(some, groups).shows(3, over), truth, (some, groups, over))

    def test_each_web_of_four_places(self):
        somes = [list(some) for many in range(5) for some in itertools.combinations(range(4), many)]
        for ties in each_web(4):
            over = turned_over(4, ties)
            for some in somes:
                for groups in each_groups(4):
                    truth = right_crowd(some, groups, 4, ties)
                    self.assertIs(Crowd(some, groups).shows(4, ties), truth, (some, groups, ties))
                    self.assertIs(Lonely(some, groups).shows(4, over), truth, (some, groups, over))


class FortyPlacesTest(CrowdsCase):
    def test_no_ties_and_all_ties(self):
        alone, everyone = [[place] for place in range(40)], list(range(40))
        self.both(True, everyone, alone, 40, all_ties(40))
        self.both(True, everyone, alone[::-1], 40, all_ties(40)[::-1])
        self.both(True, [17], [everyone], 40, [])
        self.both(False, everyone, alone, 40, all_ties(40)[:-1])
        self.both(False, everyone, alone, 40, all_ties(40)[1:])
        self.both(False, [17], [everyone], 40, [(38, 39)])
        self.both(False, [17], [everyone], 40, [(0, 1)])
        self.both(False, [17], [everyone[:-1]], 40, [])
        self.both(False, [17], [everyone + [40]], 40, [])

    def test_a_crowd_of_steps(self):
        groups = [list(range(21))] + [[place] for place in range(21, 40)]
        self.told(True, Crowd(list(range(20, 40)), groups), 40, STEPS)
        self.told(True, Crowd([19] + list(range(21, 40)), groups[::-1]), 40, STEPS)
        self.told(False, Crowd([18] + list(range(21, 40)), groups), 40, STEPS)
        self.told(False, Crowd(list(range(19, 40)), groups + [[]]), 40, STEPS)
        self.told(False, Crowd(list(range(21, 40)), groups), 40, STEPS)
        self.told(False, Lonely(list(range(20, 40)), groups), 40, STEPS)

    def test_lonely_places_of_steps(self):
        groups = [[0], [20]] + [[place, 40 - place] for place in range(1, 20)]
        self.told(True, Lonely(list(range(21)), groups), 40, STEPS)
        self.told(True, Lonely(list(range(21)), groups[::-1]), 40, STEPS)
        self.told(True, Lonely(list(range(20)) + [20], [[place] for place in range(20)] + [list(range(20, 40))]), 40,
                  STEPS)
        self.told(False, Lonely(list(range(20)) + [21], groups), 40, STEPS)
        self.told(False, Lonely(list(range(20)), groups), 40, STEPS)
        self.told(False, Crowd(list(range(21)), groups), 40, STEPS)

    def test_twenty_twos(self):
        evens, odds = list(range(0, 40, 2)), list(range(1, 40, 2))
        twos = [[place, place + 1] for place in evens]
        self.both(True, [0, 1], [evens, odds], 40, TWOS)
        self.both(True, [38, 39], [odds, evens], 40, TWOS)
        self.both(False, [1, 2], [evens, odds], 40, TWOS)
        self.told(True, Lonely(evens, twos), 40, TWOS)
        self.told(True, Lonely(odds, twos[::-1]), 40, TWOS)
        self.told(False, Lonely(evens[:-1] + [39], twos[:-1] + [[39, 38]]), 40, TWOS)
        self.told(True, Lonely(evens[:-1] + [39], twos), 40, TWOS)
        self.told(False, Lonely(evens, twos), 40, TWOS[1:])


class FieldsTest(CrowdsCase):
    def test_by_the_fields_as_they_stand(self):
        for kind, ties in [(Crowd, [(0, 1)]), (Lonely, [(0, 2), (1, 2)])]:
            answer = kind([0, 1], [[0, 2], [1]])
            self.told(True, answer, 3, ties)
            answer.groups[0].pop()
            self.told(False, answer, 3, ties)
            answer.groups[1].append(2)
            self.told(True, answer, 3, ties)
            answer.some.pop()
            self.told(False, answer, 3, ties)
            answer.some = [0, 1]
            self.told(True, answer, 3, ties)
            answer.groups = [[0, 1], [2]]
            self.told(False, answer, 3, ties)
            answer.groups = [[1], [0, 2]]
            self.told(True, answer, 3, ties)

    def test_what_is_no_number_is_no_place(self):
        for value in no_numbers():
            for kind, ties in [(Crowd, [(0, 1)]), (Lonely, [])]:
                self.assertIs(kind([0, value], [[0], [1]]).shows(2, ties), False)
                self.assertIs(kind([0, 1], [[0], [value]]).shows(2, ties), False)

    def test_what_is_no_list_is_no_field(self):
        for value in no_lists():
            for kind, ties in [(Crowd, [(0, 1)]), (Lonely, [])]:
                self.assertIs(kind(value, [[0], [1]]).shows(2, ties), False)
                self.assertIs(kind([0, 1], value).shows(2, ties), False)
                self.assertIs(kind([0, 1], [[0], value]).shows(2, ties), False)


if __name__ == "__main__":
    unittest.main()
