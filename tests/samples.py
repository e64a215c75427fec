"""Values and webs that several tests use."""

import copy
import decimal
import fractions
import itertools
import random
import unittest

from tipwebs.errors import TipError


class Unwritable:
    """An object that cannot be written out, compared, counted or used as a key."""

    def __repr__(self):
        raise RuntimeError("not to be written out")

    __str__ = __repr__
    __hash__ = None

    def __eq__(self, other):
        raise RuntimeError("not to be compared")

    def __len__(self):
        raise RuntimeError("not to be counted")


def endless():
    """A list that stands within itself."""
    loop = []
    loop.append(loop)
    return loop


def no_numbers():
    """Values of any kind that are no whole numbers, new each time."""
    return [
        True, False, None, 1.0, 0.0, float("nan"), float("inf"), 1 + 0j, "", "1", b"1", bytearray(b"1"), [], [1],
        (), (1,), (1, 2), {}, {1: 2}, set(), {1}, frozenset(), range(3), iter([1]), object(), int, len, lambda: 1,
        fractions.Fraction(1), decimal.Decimal(1), ValueError("1"), Unwritable(), NotImplemented, ...,
    ]


def no_lists():
    """Values of any kind that are no lists, new each time."""
    return [value for value in no_numbers() if not isinstance(value, list)] + [0, 1, -1, 10 ** 5000]


def all_ties(places):
    return list(itertools.combinations(range(places), 2))


def each_web(places):
    """The ties of each web of so many places."""
    pairs = all_ties(places)
    for chosen in itertools.product([False, True], repeat=len(pairs)):
        yield list(itertools.compress(pairs, chosen))


def tied(ties, one, other):
    return (min(one, other), max(one, other)) in ties


def bars(four, ties):
    """Whether four unlike places bar weights, by point 2's own words."""
    first, second, third, fourth = four
    both_tied = tied(ties, first, second) and tied(ties, third, fourth)
    return both_tied and not tied(ties, first, third) and not tied(ties, second, fourth)


def each_tipweb(places):
    """The ties of each web of so many places in which no four bar weights."""
    for ties in each_web(places):
        if not any(bars(four, ties) for four in itertools.permutations(range(places), 4)):
            yield ties


def each_barred_web(places):
    """The ties of each web of so many places in which some four bar weights."""
    for ties in each_web(places):
        if any(bars(four, ties) for four in itertools.permutations(range(places), 4)):
            yield ties


def is_nested(places, ties):
    """Whether of any two places one is tied to all the other one is tied to, the two left aside: no four bar."""
    near = [{other for other in range(places) if tied(ties, place, other)} for place in range(places)]
    return all(near[one] - {other} <= near[other] or near[other] - {one} <= near[one]
               for one, other in all_ties(places))


def by_weights(weights, bound):
    """The ties, in order, of the web of these weights and this bound."""
    return [(low, high) for low, high in all_ties(len(weights)) if weights[low] + weights[high] >= bound]


def renumbered(ties, names):
    """The ties, in order, when each place gets its name for its number."""
    return sorted((min(names[low], names[high]), max(names[low], names[high])) for low, high in ties)


def counts_by(places, ties):
    return [sum(place in tie for tie in ties) for place in range(places)]


def each_row(places):
    """Each row of so many places."""
    for order in itertools.permutations(range(places)):
        for truths in itertools.product([False, True], repeat=places - 1):
            yield list(zip(order, (False,) + truths))


def by_words(row):
    """The ties of a row by point 3's own words: of two places, the truth of the one behind says whether they are."""
    step = {place: at for at, (place, truth) in enumerate(row)}
    return [(low, high) for low, high in all_ties(len(row)) if row[max(step[low], step[high])][1]]


def mixed(listed, seed=1):
    """A copy of the list in another turn, always the same one."""
    copied = list(listed)
    random.Random(seed).shuffle(copied)
    return copied


def big_tipwebs():
    """The ties of tipwebs of forty places: none, all, and some by weights."""
    webs = [[], all_ties(40)]
    for bound in [1, 20, 37, 40, 55, 60, 78]:
        webs.append(by_weights(mixed(range(40), bound), bound))
        webs.append(by_weights([place * place * 7 // 5 + bound & 63 for place in range(40)], bound))
    return webs


class RefusedCase(unittest.TestCase):
    def refused(self, kind, call, *handed):
        """The call refuses what is handed in by this very class."""
        with self.assertRaises(TipError) as caught:
            call(*handed)
        self.assertIs(type(caught.exception), kind)


class ShowsCase(unittest.TestCase):
    def told(self, truth, answer, places, ties):
        """The answer tells this truth of the web, and nothing is changed by asking it, twice."""
        fields, web = copy.deepcopy(vars(answer)), list(ties)
        for turn in range(2):
            self.assertIs(answer.shows(places, ties), truth, (fields, places, ties))
        self.assertEqual(vars(answer), fields)
        self.assertEqual(ties, web)
