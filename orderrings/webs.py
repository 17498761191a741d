"""The web of a book: ways, rounds and blocks."""

from orderrings.books import groups, groups_of, in_both, members_of, memberships, need_group, need_person
from orderrings.books import people
from orderrings.errors import Unfit
from orderrings.kinds import as_set, as_tuples


def is_round(book, thing):
    """Whether thing is a ROUND of the BOOK, told from its least group on, its lesser way about."""
    if not isinstance(thing, tuple) or not all([isinstance(name, str) for name in thing]):
        return False
    return _goes_round(book, thing) and _told(thing) == thing


def has_round(book):
    """Whether the BOOK has a ROUND."""
    return any([len(block) > 1 for block in blocks(book)])


def rounds(book):
    """The ascending list of all ROUNDS."""
    found = []
    ways = [(group,) for group in groups(book)]
    while ways:
        found.extend(_closed(book, ways))
        ways = _longer(book, ways)
    return sorted(found)


def shortest_round(book):
    """Of the ROUNDS with the fewest groups the least one; None if there is none."""
    if not has_round(book):
        return None
    ways = [(group,) for group in groups(book)]
    found = []
    while not found:
        ways = _longer(book, ways)
        found = _closed(book, ways)
    return min(found)


def _longer(book, ways):
    """These ways with one person and one group more, nobody twice, no group below the first one."""
    return [
        way + (person, group)
        for way in ways
        for person in members_of(book, way[-1])
        if person not in way[1::2]
        for group in groups_of(book, person)
        if group > way[0] and group not in way[0::2]
    ]


def _closed(book, ways):
    """The ROUNDS, as they are told, that these ways become by one person more."""
    return [
        way + (person,)
        for way in ways
        if len(way) > 1
        for person in in_both(book, way[-1], way[0])
        if person > way[1] and person not in way[1::2]
    ]


def round_from(book, way):
    """The ROUND that has these groups and people in this order, as it is told."""
    way = as_tuples(way)
    if not _goes_round(book, way):
        raise Unfit()
    return _told(way)


def _goes_round(book, way):
    """Whether these strings are groups and people of a ROUND, begun at whichever group."""
    stops, links = way[0::2], way[1::2]
    if len(stops) != len(links) or len(stops) < 2:
        return False
    if len(as_set(stops)) < len(stops) or len(as_set(links)) < len(links):
        return False
    ties = memberships(book)
    following = stops[1:] + stops[:1]
    return all([
        (stop, link) in ties and (after, link) in ties
        for stop, link, after in zip(stops, links, following)
    ])


def _told(way):
    """The same ROUND, from its least group on, that way about in which its first person is the lesser one."""
    stops = way[0::2]
    # A person may have the NAME of this group: so it is looked for among the groups alone.
    start = 2 * stops.index(min(stops))
    onward = way[start:] + way[:start]
    if onward[1] < onward[-1]:
        return onward
    return onward[:1] + onward[:0:-1]


def is_on_round(book, group, person):
    """Whether this MEMBERSHIP is on some ROUND."""
    return len(block_of(book, group, person)) > 1


def bridges(book):
    """The set of the MEMBERSHIPS that are on no ROUND."""
    return tuple([block[0] for block in blocks(book) if len(block) == 1])


def blocks(book):
    """The set of all BLOCKS.

    Two MEMBERSHIPS of one group or person are together on a ROUND exactly if their other ends
    hang together without it; all others of a BLOCK are joined by a row of such.
    """
    web = _web(book)
    block_at = {tie: (tie,) for tie in memberships(book)}
    for node in web:
        for side in _sides(web, node):
            _make_one(block_at, [_tie(node, other) for other in side])
    return as_set(list(block_at.values()))


def _make_one(block_at, ties):
    """Puts the blocks of all these MEMBERSHIPS together."""
    joined = as_set([tie for start in ties for tie in block_at[start]])
    for tie in joined:
        block_at[tie] = joined


def block_of(book, group, person):
    """The BLOCK of this MEMBERSHIP."""
    need_group(book, group)
    need_person(book, person)
    if person not in members_of(book, group):
        raise Unfit()
    return [block for block in blocks(book) if (group, person) in block][0]


def cut_people(book):
    """The set of the people whom, each alone, some two groups need to hang together."""
    web = _web(book)
    return tuple([person for person in people(book) if len(_sides(web, (1, person))) > 1])


def cut_groups(book):
    """The set of the groups that have MEMBERSHIPS in two BLOCKS or more."""
    web = _web(book)
    return tuple([group for group in groups(book) if len(_sides(web, (0, group))) > 1])


def _web(book):
    """For each node of the web its neighbours: (0, group) stands for a group, (1, person) for a person."""
    web = {}
    for group, person in memberships(book):
        web.setdefault((0, group), []).append((1, person))
        web.setdefault((1, person), []).append((0, group))
    return web


def _tie(node, other):
    """The MEMBERSHIP of a group's and a person's node, whichever comes first."""
    low, high = min(node, other), max(node, other)
    return (low[1], high[1])


def _sides(web, node):
    """The neighbours of this node, in lists of those that hang together without it."""
    sides = []
    left = web[node]
    while left:
        reached = _reached(web, left[0], node)
        sides.append([other for other in left if other in reached])
        left = [other for other in left if other not in reached]
    return sides


def _reached(web, start, closed):
    """A dict of the nodes to which ways lead from start that do not touch the closed node."""
    reached = {start: True}
    waiting = [start]
    while waiting:
        here = waiting.pop()
        for node in web[here]:
            if node != closed and node not in reached:
                reached[node] = True
                waiting.append(node)
    return reached


def way_between(book, one, other):
    """Of the shortest ways from one group to the other one the least; None if there is no way."""
    need_group(book, one)
    need_group(book, other)
    far = _distances(book, other)
    if one not in far:
        return None
    way = (one,)
    while way[-1] != other:
        # All ways that come nearer with each step are equally long, so the least next step is right.
        way = way + min([
            (person, group)
            for person in members_of(book, way[-1])
            for group in groups_of(book, person)
            if far[group] < far[way[-1]]
        ])
    return way


def _distances(book, start):
    """For each group to which a way leads from start the least number of people on such a way."""
    far = {start: 0}
    ring = [start]
    while ring:
        found = [
            group
            for here in ring
            for person in members_of(book, here)
            for group in groups_of(book, person)
            if group not in far
        ]
        many = far[ring[0]] + 1
        for group in found:
            far[group] = many
        ring = found
    return far
