"""The greatest crowds and the most lonely places of tipwebs, with groups that show that none are more."""

from tipwebs.answers import Crowd, Lonely
from tipwebs.rows import row_of

# In a row those with True and the first place are tied to each other, and those with False,
# the first place among them, are lonely: the first place alone belongs to both.


def crowd(places, ties):
    """Tell a greatest crowd of a tipweb (BadPlaces, BadTies, NoTip)."""
    row = row_of(places, ties)
    with_true = places_with(True, row)
    groups = [places_with(False, row)] + [[place] for place in with_true]
    return Crowd(sorted([first_of(row)] + with_true), groups)


def lonely(places, ties):
    """Tell the most lonely places of a tipweb (BadPlaces, BadTies, NoTip)."""
    row = row_of(places, ties)
    first = first_of(row)
    with_false = places_with(False, row)
    groups = [sorted([first] + places_with(True, row))] + [[place] for place in with_false if place != first]
    return Lonely(with_false, groups)


def first_of(row):
    """Tell the place that stands first in a row."""
    return row[0][0]


def places_with(truth, row):
    """Tell the places that have this truth in a row, rising."""
    return sorted([place for place, has in row if has == truth])
