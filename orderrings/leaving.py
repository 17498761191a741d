"""Memberships that end: the fewest, the cheapest, and those that calm other things."""

from orderrings.books import groups, memberships, need_group, need_person, parts, people
from orderrings.choices import least_subset
from orderrings.classes import is_split
from orderrings.errors import Unfit
from orderrings.forests import closing_ties, how_many_forests, is_without_round
from orderrings.kinds import as_set, as_tuples
from orderrings.webs import rounds


def _kept_ties(book, ends):
    """The MEMBERSHIPS without these; raises Unfit if one of these is none, or a group would be without members."""
    gone = as_tuples(ends)
    ties = memberships(book)
    left = tuple([tie for tie in ties if tie not in gone])
    if not all([end in ties for end in gone]) or as_set([group for group, _ in left]) != groups(book):
        raise Unfit()
    return left


def kept(book, ends):
    """The BOOK without these MEMBERSHIPS."""
    left = _kept_ties(book, ends)
    return tuple([(group, tuple([person for name, person in left if name == group])) for group in groups(book)])


def is_mended(book, ends):
    """Whether the BOOK has no ROUND without these MEMBERSHIPS."""
    return is_without_round(_kept_ties(book, ends))


def fewest_ends(book):
    """How many MEMBERSHIPS a set has at the least without which no ROUND is left."""
    return len(closing_ties(memberships(book)))


def least_ends(book):
    """The least set of so few MEMBERSHIPS without which no ROUND is left."""
    return _least_closing(memberships(book))


def _least_closing(ties):
    """Of the sets of the fewest of these MEMBERSHIPS without which no ROUND is left the least one."""
    # The greatest ones are kept first: so the least ones close the ROUNDS.
    return tuple(sorted(closing_ties(ties[::-1])))


def ways_to_end(book):
    """How many sets of the fewest MEMBERSHIPS there are without which no ROUND is left."""
    return how_many_forests(memberships(book), [part[0] for part in parts(book)])


def cheapest_ends(book, prices):
    """Of the cheapest sets of MEMBERSHIPS without which no ROUND is left the least of those with the fewest."""
    # The dearest ones are kept first, of equally dear ones the greatest: so the cheapest and least close the ROUNDS.
    priced = sorted(zip(prices, memberships(book)), reverse=True)
    return tuple(sorted(closing_ties([tie for _, tie in priced])))


def more_ends(book, ends):
    """Of the sets of the fewest further MEMBERSHIPS with which these leave no ROUND the least one."""
    return _least_closing(_kept_ties(book, ends))


def spare_ends(book, ends):
    """The set of those of these MEMBERSHIPS each of which is on no ROUND if it alone is given back."""
    left = _kept_ties(book, ends)
    return tuple([end for end in as_tuples(ends) if _joins_calmly(left, end)])


def _joins_calmly(ties, tie):
    """Whether this MEMBERSHIP is on no ROUND once it is put to the others."""
    others = [other for other in ties if other != tie]
    return tie not in closing_ties(others + [tie])


def can_join(book, group, person):
    """Whether no ROUND has this MEMBERSHIP if the person is a member, too."""
    need_group(book, group)
    need_person(book, person)
    return _joins_calmly(memberships(book), (group, person))


def calm_joins(book):
    """The set of the pairs of a group and a person, no MEMBERSHIPS, for which it is so."""
    ties = memberships(book)
    pairs = [(group, person) for group in groups(book) for person in people(book)]
    return tuple([pair for pair in pairs if pair not in ties and _joins_calmly(ties, pair)])


def least_closed(book):
    """Of the sets of groups without which no ROUND is left the least of those with the fewest groups."""
    # It is not of all groups, as one group alone has no ROUND.
    ties = memberships(book)
    return least_subset(groups(book), lambda some: is_without_round([tie for tie in ties if tie[0] not in some]))


def least_gone(book):
    """Of the sets of people such that each ROUND has one of them the least of those with the fewest people."""
    ties = memberships(book)
    return least_subset(people(book), lambda some: is_without_round([tie for tie in ties if tie[1] not in some]))


def _ties_on(way):
    """The MEMBERSHIPS that are on this ROUND."""
    stops, links = way[0::2], way[1::2]
    return list(zip(stops, links)) + list(zip(stops[1:] + stops[:1], links))


def _least_breaking(book, ways):
    """Of the sets of MEMBERSHIPS with one at least on each of these ROUNDS the least of those with the fewest."""
    sets = [_ties_on(way) for way in ways]
    return least_subset(memberships(book), lambda ends: all([_has_one_of(ends, ties) for ties in sets]))


def _has_one_of(ends, ties):
    return any([end in ties for end in ends])


def least_pair_ends(book):
    """Of the sets of the fewest MEMBERSHIPS without which no two people are together in two groups the least one."""
    return _least_breaking(book, [way for way in rounds(book) if len(way) == 4])


def least_ends_beside(book, classes):
    """Of the sets of the fewest MEMBERSHIPS without which all groups of each ROUND are in one class the least one."""
    return _least_breaking(book, [way for way in rounds(book) if is_split(classes, way)])
