"""Values and webs that several tests use."""

import copy
import decimal
import fractions
import itertools
import unittest


class Unwritable:
    """An object that cannot be written out, compared, counted or used as a key."""

    def __repr__(self):
        raise RuntimeError("not to be written out")

    __str__ = __repr__
    __hash__ = None

    def __eq__(self, other):
        raise RuntimeError("not to be compared")

    def __len__(self):
        raise RuntimeError("not to be counted")


def endless():
    """A list that stands within itself."""
    loop = []
    loop.append(loop)
    return loop


def no_numbers():
    """Values of any kind that are no whole numbers, new each time."""
    return [
        True, False, None, 1.0, 0.0, float("nan"), float("inf"), 1 + 0j, "", "1", b"1", bytearray(b"1"), [], [1],
        (), (1,), (1, 2), {}, {1: 2}, set(), {1}, frozenset(), range(3), iter([1]), object(), int, len, lambda: 1,
        fractions.Fraction(1), decimal.Decimal(1), ValueError("1"), Unwritable(), NotImplemented, ...,
    ]


def no_lists():
    """Values of any kind that are no lists, new each time."""
    return [value for value in no_numbers() if not isinstance(value, list)] + [0, 1, -1, 10 ** 5000]


def all_ties(places):
    return list(itertools.combinations(range(places), 2))


def each_web(places):
    """The ties of each web of so many places."""
    pairs = all_ties(places)
    for chosen in itertools.product([False, True], repeat=len(pairs)):
        yield list(itertools.compress(pairs, chosen))


class ShowsCase(unittest.TestCase):
    def told(self, truth, answer, places, ties):
        """The answer tells this truth of the web, and nothing is changed by asking it, twice."""
        fields, web = copy.deepcopy(vars(answer)), list(ties)
        for turn in range(2):
            self.assertIs(answer.shows(places, ties), truth, (fields, places, ties))
        self.assertEqual(vars(answer), fields)
        self.assertEqual(ties, web)
