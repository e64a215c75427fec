"""What is told of a web, each answer with the means to see that it is right."""

from tipwebs.webs import is_number, is_place, tied_both_ways


class Answer:
    """Something told of a web."""


class Weighed(Answer):
    """Weights and a bound: two places are tied just if their weights together come to the bound."""

    def __init__(self, weights, bound):
        self.weights = copied(weights)
        self.bound = copied(bound)

    def shows(self, places, ties):
        """Tell whether these weights and this bound give just these ties."""
        if not are_weights(self.weights, places) or not is_number(self.bound) or self.bound < 1:
            return False
        tied = tied_both_ways(ties)
        for pair in pairs_of(list(range(places))):
            together = self.weights[pair[0]] + self.weights[pair[1]]
            if (pair in tied) != (together >= self.bound):
                return False
        return True


class Barred(Answer):
    """Four places that bar any weights: first tied to second, third to fourth; not first to third, second to fourth."""

    def __init__(self, four):
        self.four = copied(four)

    def shows(self, places, ties):
        """Tell whether the four are unlike places, tied and not tied as four that bar must be."""
        if not are_places(self.four, places) or len(self.four) != 4 or len(set(self.four)) != 4:
            return False
        tied = tied_both_ways(ties)
        first, second, third, fourth = self.four
        tied_as_told = (first, second) in tied and (third, fourth) in tied
        return tied_as_told and (first, third) not in tied and (second, fourth) not in tied


class Crowd(Answer):
    """A crowd, and as many groups of lonely places that hold all places."""

    def __init__(self, some, groups):
        self.some = copied(some)
        self.groups = copied(groups)

    def shows(self, places, ties):
        """Tell whether it is a crowd and whether the groups show that none is greater."""
        if not rises(self.some, places) or not parts_places(self.groups, len(self.some), places):
            return False
        tied = tied_both_ways(ties)
        return all_tied(self.some, tied) and all([none_tied(group, tied) for group in self.groups])


class Lonely(Answer):
    """Lonely places, and as many groups that are crowds and hold all places."""

    def __init__(self, some, groups):
        self.some = copied(some)
        self.groups = copied(groups)

    def shows(self, places, ties):
        """Tell whether they are lonely and whether the groups show that no lonely places are more."""
        if not rises(self.some, places) or not parts_places(self.groups, len(self.some), places):
            return False
        tied = tied_both_ways(ties)
        return none_tied(self.some, tied) and all([all_tied(group, tied) for group in self.groups])


def copied(value):
    """Copy a list, the lists within it too; tell anything else as it is."""
    if isinstance(value, list):
        return [copied(item) for item in value]
    return value


def are_weights(weights, places):
    """Tell whether it is a list of a whole number from 0 on for each place."""
    if not isinstance(weights, list) or len(weights) != places:
        return False
    return all([is_number(weight) and weight >= 0 for weight in weights])


def are_places(listed, places):
    """Tell whether it is a list of places, alike or not."""
    return isinstance(listed, list) and all([is_place(item, places) for item in listed])


def rises(listed, places):
    """Tell whether it is a list of unlike places in rising order."""
    if not are_places(listed, places):
        return False
    return all([low < high for low, high in zip(listed, listed[1:])])


def parts_places(groups, many, places):
    """Tell whether it is a list of so many rising lists, with each place in just one of them."""
    if not isinstance(groups, list) or len(groups) != many:
        return False
    met = []
    for group in groups:
        if not rises(group, places):
            return False
        met.extend(group)
    return sorted(met) == list(range(places))


def pairs_of(listed):
    """Tell each two of the listed, the one that stands ahead first."""
    return [(one, other) for at, one in enumerate(listed) for other in listed[at + 1:]]


def all_tied(listed, tied):
    """Tell whether any two of the listed places are tied."""
    return all([pair in tied for pair in pairs_of(listed)])


def none_tied(listed, tied):
    """Tell whether no two of the listed places are tied."""
    return not any([pair in tied for pair in pairs_of(listed)])
