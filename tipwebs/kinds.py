"""The kinds of tipwebs, each told by a number: its row's truths, place by place."""

from tipwebs.errors import BadNumber
from tipwebs.rows import by_row, row_of
from tipwebs.webs import check_places, is_number


def kind_by(places, number):
    """Tell the ties, in order, of the web of that number whose row is rising (BadPlaces, BadNumber)."""
    check_places(places)
    if not is_number(number) or number < 0 or number >= brought_by(places):
        raise BadNumber("numbers of kinds go from 0 to one less than what the place behind the last one would bring")
    row = [(0, False)]
    for place in range(1, places):
        row.append((place, (number & brought_by(place)) != 0))
    return by_row(row)


def number_of(places, ties):
    """Tell the number of a tipweb's kind (BadPlaces, BadTies, NoTip)."""
    row = row_of(places, ties)
    # Renumbered by where they stand in the row, the places make the web of this kind whose row is rising.
    return sum([brought_by(at) for at, (place, truth) in enumerate(row) if truth])


def brought_by(place):
    """Tell what a place from 1 on brings if it has True."""
    return 1 << (place - 1)
