"""Weights and a bound that give the ties of a web, or four places that bar them."""

from tipwebs.answers import Barred, Weighed
from tipwebs.rows import row_by_counts
from tipwebs.webs import check_web, counts_of, tied_both_ways


def told(places, ties):
    """Tell a Weighed of a tipweb and a Barred of any other web (BadPlaces, BadTies)."""
    check_web(places, ties)
    four = four_that_bar(places, ties)
    if four is None:
        return weighed_by(row_by_counts(counts_of(places, ties)))
    return Barred(four)


def four_that_bar(places, ties):
    """Tell four that bar, or None where there are none."""
    counts = counts_of(places, ties)
    tied = tied_both_ways(ties)
    rising = sorted(range(places), key=lambda place: counts[place])
    # If of each two neighbours here the one with more ties is tied to all that the other one is
    # tied to, the same holds of any two places, and none bar. So no other two need to be asked.
    for few, many in zip(rising, rising[1:]):
        of_few = tied_to_one_only(few, many, places, tied)
        of_many = tied_to_one_only(many, few, places, tied)
        if of_few and of_many:
            return [of_few[0], few, many, of_many[0]]
    return None


def tied_to_one_only(one, other, places, tied):
    """Tell the places that are tied to the one, and neither are nor are tied to the other."""
    return [place for place in range(places)
            if (place, one) in tied and place != other and (place, other) not in tied]


def weighed_by(row):
    """Tell weights by a row: the further behind, the heavier with True and the lighter with False."""
    many = len(row)
    weights = [0] * many
    for at, (place, truth) in enumerate(row):
        weights[place] = many + at if truth else many - 1 - at
    # A place ahead of the one at that step weighs from many - at to many + at - 1: enough to come
    # to the bound with the many + at of one with True, too little with the many - 1 - at of one with False.
    return Weighed(weights, many + many)
