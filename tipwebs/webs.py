"""What a web is: a count of places, and the ties of these places."""

from tipwebs.errors import BadPlaces, BadTies

MOST_PLACES = 40


def is_number(value):
    """Tell whether it is a whole number; True and False are none."""
    return isinstance(value, int) and not isinstance(value, bool)


def is_count_of_places(value):
    """Tell whether a web can have so many places."""
    return is_number(value) and value in range(1, MOST_PLACES + 1)


def is_place(value, places):
    """Tell whether it is one of so many places, counted from 0."""
    return is_number(value) and value in range(places)


def is_tie(value, places):
    """Tell whether it is a pair of two unlike places, the lesser one first."""
    if not isinstance(value, tuple) or len(value) != 2:
        return False
    low, high = value
    return is_place(low, places) and is_place(high, places) and low < high


# No refusal shows the refused value: writing out a very large number or a strange
# object can fail by itself, and then another error than the told one would come.


def check_places(places):
    """Refuse what is no count of places (BadPlaces)."""
    if not is_count_of_places(places):
        raise BadPlaces(f"places are a whole number from 1 to {MOST_PLACES}")


def check_ties(places, ties):
    """Refuse what are no ties of these places, which are checked already (BadTies)."""
    if not isinstance(ties, list):
        raise BadTies("ties are a list")
    seen = set()
    for tie in ties:
        if not is_tie(tie, places):
            raise BadTies("a tie is a pair of two unlike places, the lesser one first")
        if tie in seen:
            raise BadTies("no pair is tied twice")
        seen.add(tie)


def check_web(places, ties):
    """Refuse what is no web: wrong places first (BadPlaces), then wrong ties (BadTies)."""
    check_places(places)
    check_ties(places, ties)


def tied_both_ways(ties):
    """Tell the ties as the keys of a dict, so that two places can be asked for in either order."""
    tied = {}
    for low, high in ties:
        tied[(low, high)] = True
        tied[(high, low)] = True
    return tied


def counts_of(places, ties):
    """Tell for each place how many ties it has."""
    counts = [0] * places
    for low, high in ties:
        counts[low] += 1
        counts[high] += 1
    return counts
