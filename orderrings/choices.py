"""Choices among all subsets of a few values."""

from itertools import combinations


def least_subset(values, fits):
    """Of the subsets of these ascending values that fit those with the fewest, of these the least one.

    None if none fits; fits tells of a tuple of the values whether it does.
    """
    for many in range(len(values) + 1):
        for some in combinations(list(values), many):
            if fits(some):
                return some
    return None


def all_subsets(values):
    """The list of all subsets of these ascending values, as tuples."""
    return [some for many in range(len(values) + 1) for some in combinations(list(values), many)]


def subsets_of_size(values, many):
    """The ascending list of the subsets of so many of these ascending values, as tuples."""
    return list(combinations(list(values), many))


def all_pairs(values):
    """The ascending list of the pairs of two of these ascending values, the lesser one first."""
    return subsets_of_size(values, 2)


def all_partings(values, fits):
    """The list of all partings of these ascending values into sets that fit, each parting ascending.

    fits tells of a tuple of the values whether it does; whatever lies within one that fits must fit, too.
    """
    found = [()]
    for value in values:
        found = [grown for sets in found for grown in _put_in(sets, value, fits)]
    return found


def _put_in(sets, value, fits):
    """The list of these sets with the value in one of those with which it fits, or by itself."""
    grown = [
        sets[:at] + (some + (value,),) + sets[at + 1:]
        for at, some in enumerate(sets)
        if fits(some + (value,))
    ]
    return grown + [sets + ((value,),)]
