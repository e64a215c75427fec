"""Tipwebs place by place: the row of a tipweb, and the ties by a row or by the counts alone."""

from tipwebs.errors import BadCounts, BadRow, NoTip
from tipwebs.webs import MOST_PLACES, check_web, counts_of, is_count_of_places, is_number, is_place


def row_of(places, ties):
    """Tell a row of a tipweb, the same one whatever turn the ties come in (BadPlaces, BadTies, NoTip)."""
    check_web(places, ties)
    return row_by_counts(counts_of(places, ties))


def by_row(row):
    """Tell the ties of the web of a row, in order (BadRow)."""
    if not is_row(row):
        raise BadRow("a row holds each place once, in pairs with True or False, the first one with False")
    ties = []
    for at, (place, truth) in enumerate(row):
        if truth:
            ties.extend([(min(place, ahead), max(place, ahead)) for ahead, other in row[:at]])
    return sorted(ties)


def by_counts(counts):
    """Tell the ties of the tipweb with these counts, in order (BadCounts, NoTip)."""
    if not are_counts(counts):
        raise BadCounts(f"counts are a list of 1 to {MOST_PLACES} whole numbers from 0 on")
    return by_row(row_by_counts(counts))


def is_row(value):
    """Tell whether it is a row."""
    if not isinstance(value, list) or not is_count_of_places(len(value)):
        return False
    if not all([is_step(step, len(value)) for step in value]):
        return False
    each_once = sorted([place for place, truth in value]) == list(range(len(value)))
    return each_once and value[0][1] is False


def is_step(value, places):
    """Tell whether it is a pair of a place and True or False."""
    if not isinstance(value, tuple) or len(value) != 2:
        return False
    place, truth = value
    return is_place(place, places) and isinstance(truth, bool)


def are_counts(value):
    """Tell whether it is a list of a whole number from 0 on for each of 1 to 40 places."""
    if not isinstance(value, list) or not is_count_of_places(len(value)):
        return False
    return all([is_number(count) and count >= 0 for count in value])


def row_by_counts(counts):
    """Tell the row of the tipweb with these counts, built from its end on (NoTip: no tipweb has them)."""
    left = sorted(range(len(counts)), key=lambda place: counts[place])
    behind = []
    # Each place left is tied to all taken ones with True and to none with False, so that
    # what its count exceeds the number of the former by are its ties to the places left.
    taken_true = 0
    while left:
        if counts[left[0]] == taken_true:
            behind.append((left.pop(0), False))
        elif counts[left[-1]] == taken_true + len(left) - 1:
            behind.append((left.pop(), True))
            taken_true += 1
        else:
            raise NoTip("no tipweb has these counts of ties")
    return behind[::-1]
