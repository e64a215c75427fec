"""Crowds and lonely places of tipwebs, by point 6, held against a search."""

import itertools
import unittest

from samples import RefusedCase, all_ties, big_tipwebs, each_barred_web, each_tipweb, mixed, renumbered, tied
from tipwebs.answers import Crowd, Lonely
from tipwebs.crowds import crowd, lonely
from tipwebs.errors import NoTip
from tipwebs.kinds import kind_by


def are_crowd(some, ties):
    return all(tied(ties, one, other) for one, other in itertools.combinations(some, 2))


def are_lonely(some, ties):
    return not any(tied(ties, one, other) for one, other in itertools.combinations(some, 2))


def most(places, ties, are_such):
    """How many such places there are at most, by a search through all choices."""
    return max(many for many in range(places + 1)
               for some in itertools.combinations(range(places), many) if are_such(some, ties))


class CrowdsCase(RefusedCase):
    def right(self, places, ties):
        """Both answers are right by point 6's own words, whatever turn the ties come in."""
        self.right_answer(crowd(places, ties), Crowd, are_crowd, are_lonely, places, ties)
        self.right_answer(lonely(places, ties), Lonely, are_lonely, are_crowd, places, ties)
        for again in [ties, ties[::-1], mixed(ties)]:
            self.assertEqual(vars(crowd(places, again)), vars(crowd(places, ties)))
            self.assertEqual(vars(lonely(places, again)), vars(lonely(places, ties)))

    def right_answer(self, answer, kind, are_some, are_grouped, places, ties):
        self.assertIs(type(answer), kind)
        self.assertEqual(list(vars(answer)), ["some", "groups"])
        for listed in [answer.some] + answer.groups:
            self.assertIs(type(listed), list)
            self.assertEqual(listed, sorted(set(listed)))
            self.assertEqual([type(place) for place in listed], [int] * len(listed))
        self.assertTrue(are_some(answer.some, ties))
        self.assertTrue(all(are_grouped(group, ties) for group in answer.groups))
        self.assertEqual(len(answer.groups), len(answer.some))
        self.assertEqual(sorted(sum(answer.groups, [])), list(range(places)))
        self.assertIs(answer.shows(places, ties), True)


class FewPlacesTest(CrowdsCase):
    def test_each_tipweb_against_a_search(self):
        for places in range(1, 6):
            for ties in each_tipweb(places):
                self.right(places, ties)
                self.assertEqual(len(crowd(places, ties).some), most(places, ties, are_crowd))
                self.assertEqual(len(lonely(places, ties).some), most(places, ties, are_lonely))

    def test_each_kind_of_eight_places_renumbered(self):
        for number in range(2 ** 7):
            ties = renumbered(kind_by(8, number), mixed(range(8), number))
            self.right(8, ties)
            self.assertEqual(len(crowd(8, ties).some), most(8, ties, are_crowd))
            self.assertEqual(len(lonely(8, ties).some), most(8, ties, are_lonely))

    def test_one_place(self):
        self.assertEqual(vars(crowd(1, [])), {"some": [0], "groups": [[0]]})
        self.assertEqual(vars(lonely(1, [])), {"some": [0], "groups": [[0]]})

    def test_each_other_web_of_few_places_is_refused(self):
        for places in range(4, 6):
            for ties in each_barred_web(places):
                self.refused(NoTip, crowd, places, ties)
                self.refused(NoTip, lonely, places, ties)


class FortyPlacesTest(CrowdsCase):
    def test_webs_by_weights_and_renumbered(self):
        for ties in big_tipwebs():
            self.right(40, ties)
            self.right(40, renumbered(ties, mixed(range(40))))

    def test_no_ties_and_all_ties(self):
        for places in range(1, 41):
            self.right(places, [])
            self.right(places, all_ties(places))
            self.assertEqual(len(crowd(places, []).some), 1)
            self.assertEqual(lonely(places, []).some, list(range(places)))
            self.assertEqual(crowd(places, all_ties(places)).some, list(range(places)))
            self.assertEqual(len(lonely(places, all_ties(places)).some), 1)

    def test_kinds(self):
        for number in [1, 2 ** 38, 2 ** 39 // 3, 2 ** 39 // 7, 2 ** 39 - 2]:
            ties = kind_by(40, number)
            self.right(40, ties)
            self.assertEqual(len(crowd(40, ties).some), 1 + bin(number).count("1"))
            self.assertEqual(len(lonely(40, ties).some), 40 - bin(number).count("1"))


if __name__ == "__main__":
    unittest.main()
