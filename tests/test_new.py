"""Nothing handed in is changed or kept, and what is told is new, by point 1."""

import copy
import unittest

from samples import all_ties, by_weights, counts_by, mixed
from tipwebs.answers import Answer
from tipwebs.crowds import crowd, lonely
from tipwebs.errors import TipError
from tipwebs.kinds import kind_by, number_of
from tipwebs.rows import by_counts, by_row, row_of
from tipwebs.weighing import told

TIPWEB = [(1, 2), (0, 4), (0, 1), (1, 4), (1, 3)]
BIG = mixed(by_weights(mixed(range(40)), 41))
ROW = [(2, False), (0, True), (3, False), (1, True)]

ASKED = [
    (told, (5, TIPWEB)), (told, (5, [(3, 4), (0, 1)])), (told, (40, BIG)), (told, (1, [])),
    (row_of, (5, TIPWEB)), (row_of, (40, BIG)), (row_of, (1, [])),
    (by_row, (ROW,)), (by_row, ([(0, False)],)), (by_row, (list(zip(mixed(range(40)), [False] + [True] * 39)),)),
    (by_counts, (counts_by(5, TIPWEB),)), (by_counts, (counts_by(40, BIG),)), (by_counts, ([0],)),
    (kind_by, (5, 9)), (kind_by, (40, 2 ** 38 + 5)), (kind_by, (1, 0)),
    (number_of, (5, TIPWEB)), (number_of, (40, BIG)),
    (crowd, (5, TIPWEB)), (crowd, (40, BIG)), (crowd, (1, [])),
    (lonely, (5, TIPWEB)), (lonely, (40, BIG)), (lonely, (1, [])),
]

REFUSED = [
    (told, (5, TIPWEB + [(1, 0)])), (told, (5, TIPWEB + [(0, 1)])), (row_of, (4, [(2, 3), (0, 1)])),
    (row_of, (5, [(3, 4), [0, 1]])), (by_row, (ROW + [(4, None)],)), (by_row, ([(1, True), (0, False)],)),
    (by_counts, ([3, 1, 2, 1, 1],)), (by_counts, ([2, 1, -1],)), (kind_by, (5, [9])),
    (number_of, (4, [(2, 3), (0, 1)])), (crowd, (4, [(2, 3), (0, 1)])), (lonely, (4, [(2, 3), (0, 1)])),
]


def plain(value):
    """What is told, with the fields of an answer for the answer; a copy."""
    return copy.deepcopy((type(value), vars(value)) if isinstance(value, Answer) else value)


def spoil(value):
    """Change a list, and the lists within it first; the fields of an answer too."""
    if isinstance(value, Answer):
        for field in vars(value).values():
            spoil(field)
    if isinstance(value, list):
        for item in value:
            spoil(item)
        value.append(77)
        value.reverse()


class HandedInTest(unittest.TestCase):
    def test_what_is_handed_in_stays_as_it_was(self):
        for call, handed in ASKED:
            before = copy.deepcopy(handed)
            call(*handed)
            self.assertEqual(handed, before, call)

    def test_what_is_refused_stays_as_it_was(self):
        for call, handed in REFUSED:
            before = copy.deepcopy(handed)
            self.assertRaises(TipError, call, *handed)
            self.assertEqual(handed, before, call)

    def test_what_was_told_stays_when_what_was_handed_in_is_changed(self):
        for call, handed in ASKED:
            handed = copy.deepcopy(handed)
            answer = call(*handed)
            before = plain(answer)
            for value in handed:
                spoil(value)
            self.assertEqual(plain(answer), before, call)


class ToldTest(unittest.TestCase):
    def test_a_told_list_changed_and_the_same_asked_again(self):
        for call, handed in ASKED:
            first = call(*handed)
            before = plain(first)
            spoil(first)
            self.assertEqual(plain(call(*handed)), before, call)
            self.assertEqual(plain(call(*copy.deepcopy(handed))), before, call)

    def test_two_answers_share_no_list(self):
        for call, handed in ASKED:
            first, second = call(*handed), call(*handed)
            before = plain(second)
            spoil(first)
            self.assertEqual(plain(second), before, call)

    def test_the_fields_of_an_answer_share_no_list(self):
        for call in [crowd, lonely]:
            for places, ties in [(1, []), (5, TIPWEB), (40, BIG), (40, []), (40, all_ties(40))]:
                answer = call(places, ties)
                lists = [answer.some, answer.groups] + answer.groups
                self.assertEqual(len({id(listed) for listed in lists}), len(lists))


class AskedAgainTest(unittest.TestCase):
    def again(self, call, places, ties, change):
        """The ties changed in place tell what other ties like them tell."""
        before = plain(call(places, ties))
        change(ties)
        fresh = plain(call(places, list(ties)))
        self.assertEqual(plain(call(places, ties)), fresh)
        self.assertNotEqual(fresh, before)

    def test_ties_changed_in_place(self):
        for call in [told, row_of, number_of, crowd, lonely]:
            self.again(call, 3, [(0, 1)], list.clear)
            self.again(call, 3, [], lambda ties: ties.extend([(1, 2), (0, 2)]))
            self.again(call, 40, [], lambda ties: ties.extend(all_ties(40)))
            self.again(call, 40, all_ties(40), lambda ties: ties.pop())

    def test_ties_changed_into_another_answer(self):
        ties = [(0, 1), (2, 3)]
        before = told(4, ties)
        ties.pop()
        self.assertNotEqual(type(told(4, ties)), type(before))
        row = row_of(4, ties)
        ties.append((2, 3))
        self.assertRaises(TipError, row_of, 4, ties)
        ties.pop()
        self.assertEqual(row_of(4, ties), row)

    def test_a_row_changed_in_place(self):
        row = list(ROW)
        self.assertEqual(by_row(row), [(0, 1), (0, 2), (1, 2), (1, 3)])
        row[3] = (1, False)
        self.assertEqual(by_row(row), [(0, 2)])
        row[0], row[1] = (0, False), (2, False)
        self.assertEqual(by_row(row), [])

    def test_counts_changed_in_place(self):
        counts = [1, 2, 1]
        self.assertEqual(by_counts(counts), [(0, 1), (1, 2)])
        counts[0] = counts[2] = 2
        self.assertEqual(by_counts(counts), [(0, 1), (0, 2), (1, 2)])
        counts[0] = 3
        self.assertRaises(TipError, by_counts, counts)
        counts[:] = [0, 0]
        self.assertEqual(by_counts(counts), [])


if __name__ == "__main__":
    unittest.main()
