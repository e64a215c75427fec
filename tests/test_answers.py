"""The answers: their classes, and their fields as they were handed in, copied within too."""

import inspect
import unittest

from tipwebs import answers
from tipwebs.answers import Answer, Barred, Crowd, Lonely, Weighed

FIELDS = {"Weighed": ["weights", "bound"], "Barred": ["four"], "Crowd": ["some", "groups"],
          "Lonely": ["some", "groups"]}
SOME_LISTS = [[], [0], [3, 1, 2], [-5, 0, 10 ** 5000], [7, 7, 7], list(range(100))]
SOME_GROUPS = [[], [[]], [[0]], [[0, 1], [2]], [[2], [1, 0], [], [-1, 10 ** 5000]], [[1]] * 50]


class ClassesTest(unittest.TestCase):
    def test_each_is_straight_under_answer(self):
        for name in FIELDS:
            kind = getattr(answers, name)
            self.assertEqual(kind.__bases__, (Answer,))
            self.assertEqual(kind.__name__, name)

    def test_answer_is_under_nothing_else(self):
        self.assertEqual(Answer.__bases__, (object,))

    def test_each_defines_shows_itself(self):
        for name in FIELDS:
            shows = vars(getattr(answers, name))["shows"]
            self.assertEqual(list(inspect.signature(shows).parameters), ["self", "places", "ties"])

    def test_each_takes_its_fields_in_order(self):
        for name, fields in FIELDS.items():
            self.assertEqual(list(inspect.signature(getattr(answers, name)).parameters), fields)

    def test_fields_are_set_when_created(self):
        for name, fields in FIELDS.items():
            kind = getattr(answers, name)
            made = kind(*[[0] for field in fields])
            self.assertEqual(sorted(vars(made)), sorted(fields))


class FieldsTest(unittest.TestCase):
    def test_weighed(self):
        for weights in SOME_LISTS:
            for bound in [1, 0, -3, 10 ** 5000]:
                made = Weighed(weights, bound)
                self.assertEqual((made.weights, made.bound), (weights, bound))

    def test_barred(self):
        for four in SOME_LISTS:
            self.assertEqual(Barred(four).four, four)

    def test_crowd_and_lonely(self):
        for kind in [Crowd, Lonely]:
            for some in SOME_LISTS:
                for groups in SOME_GROUPS:
                    made = kind(some, groups)
                    self.assertEqual((made.some, made.groups), (some, groups))

    def test_fields_by_name(self):
        self.assertEqual(vars(Weighed(bound=2, weights=[1])), {"weights": [1], "bound": 2})
        self.assertEqual(vars(Barred(four=[1])), {"four": [1]})
        for kind in [Crowd, Lonely]:
            self.assertEqual(vars(kind(groups=[[1]], some=[2])), {"some": [2], "groups": [[1]]})


class CopiesTest(unittest.TestCase):
    def test_weights_changed_afterwards(self):
        weights = [1, 2, 3]
        made = Weighed(weights, 4)
        weights[0] = 9
        weights.append(5)
        self.assertEqual(made.weights, [1, 2, 3])

    def test_four_changed_afterwards(self):
        four = [0, 1, 2, 3]
        made = Barred(four)
        four.clear()
        self.assertEqual(made.four, [0, 1, 2, 3])

    def test_some_and_groups_changed_afterwards(self):
        for kind in [Crowd, Lonely]:
            some, groups = [0, 1], [[0], [1, 2]]
            made = kind(some, groups)
            some.pop()
            groups[1].append(7)
            groups[0][0] = 5
            groups.append([8])
            self.assertEqual((made.some, made.groups), ([0, 1], [[0], [1, 2]]))

    def test_fields_changed_afterwards_leave_what_was_handed_in(self):
        weights, four = [1, 2], [0, 1, 2, 3]
        Weighed(weights, 1).weights.append(3)
        Barred(four).four[0] = 9
        self.assertEqual((weights, four), ([1, 2], [0, 1, 2, 3]))
        for kind in [Crowd, Lonely]:
            some, groups = [0], [[0, 1]]
            made = kind(some, groups)
            made.some.append(1)
            made.groups[0].append(2)
            made.groups.append([])
            self.assertEqual((some, groups), ([0], [[0, 1]]))

    def test_two_answers_of_one_list_share_nothing(self):
        groups = [[0], [1]]
        first, second = Crowd([0, 1], groups), Crowd([0, 1], groups)
        first.groups[0].append(5)
        self.assertEqual(second.groups, [[0], [1]])

    def test_one_list_twice_within_becomes_two(self):
        group = [0]
        made = Lonely([0], [group, group])
        made.groups[0].append(1)
        self.assertEqual(made.groups, [[0, 1], [0]])

    def test_lists_where_another_kind_of_field_is_meant_are_copied_too(self):
        bound, some = [1], [[2]]
        weighed, crowd = Weighed([[3]], bound), Crowd(some, [4])
        bound.append(0)
        some[0].append(0)
        self.assertEqual((weighed.bound, crowd.some), ([1], [[2]]))


if __name__ == "__main__":
    unittest.main()
