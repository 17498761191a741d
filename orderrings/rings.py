"""Rings of some run: which letters can be seen round in a ring at all."""

from orderrings.books import cut_to, groups, groups_of, in_both, memberships, need_groups, parts, people
from orderrings.choices import all_pairs, all_subsets
from orderrings.circles import can_be_woven
from orderrings.forests import is_without_round
from orderrings.judged import is_ring, short_ring
from orderrings.kinds import as_set, as_tuples, is_pair
from orderrings.rows import groups_in, letters_in, letters_of, numbered, rising_rows
from orderrings.runs import counts_in, is_run
from orderrings.webs import has_round


def can_ring(book):
    """Whether some RUN has a RING."""
    return has_round(book)


def can_ring_of(book, some):
    """Whether some RUN has a RING all LETTERS of which are of these groups."""
    return not is_without_round(memberships(cut_to(book, some)))


def ring_groups(book):
    """The set of the groups LETTERS of which are in a RING of some RUN."""
    return as_set([group for part in parts(book) if can_ring_of(book, part) for group in part])


def _numbers_shared(book):
    """A dict that leads from each pair of groups, in either order, to how many people are in both."""
    shared = {}
    for one, other in all_pairs(groups(book)):
        shared[(one, other)] = shared[(other, one)] = len(in_both(book, one, other))
    return shared


def _circle(book, some, shared):
    """These groups in the order of the LETTERS of a tight RING; None if there is no such RING."""
    if len(some) == 2:
        return some if shared[some] > 1 else None
    beside = {group: [other for other in some if other != group and shared[(group, other)] > 0] for group in some}
    if not some or any([len(others) != 2 for others in beside.values()]):
        return None
    if any([len([group for group in groups_of(book, person) if group in some]) > 2 for person in people(book)]):
        return None
    circle = [some[0]]
    following = beside[some[0]][:1]
    while following:
        circle.append(following[0])
        following = [other for other in beside[circle[-1]] if other not in circle]
    # Where the groups make two circles or more, the others are left.
    return tuple(circle) if len(circle) == len(some) else None


def tight_sets(book):
    """The set of the sets of the groups of tight RINGS of some RUN."""
    shared = _numbers_shared(book)
    return tuple(sorted([some for some in all_subsets(groups(book)) if _circle(book, some, shared) is not None]))


def tight_groups(book):
    """The set of the groups of tight RINGS of some RUN."""
    return as_set([group for some in tight_sets(book) for group in some])


def fewest_letters(book):
    """The least number of LETTERS that a RING of some RUN has; None if there is none."""
    return min(ring_sizes(book), default=None)


def ring_sizes(book):
    """The set of the numbers of LETTERS that tight RINGS of some RUN have."""
    return as_set([len(some) for some in tight_sets(book)])


def ring_run(book, some):
    """A RUN with one LETTER of each group and a tight RING of it with those of these groups; None if there is none."""
    need_groups(book, some)
    circle = _circle(book, as_tuples(some), _numbers_shared(book))
    if circle is None:
        return None
    closers = in_both(book, circle[-1], circle[0])
    if len(circle) == 2:
        # Somebody has to see the first LETTER ahead of the last one.
        closers = closers[1:]
    others = tuple([group for group in groups(book) if group not in circle])
    run = []
    for person in people(book):
        # Whoever is in two groups of a greater circle sees just one step of the RING, as do all who are in these two.
        order = circle[::-1] if person in closers else circle
        own = groups_of(book, person)
        run.append((person, numbered([group for group in order + others if group in own])))
    return (tuple(run), numbered(circle))


def is_ring_run(book, some, thing):
    """Whether thing is a pair of such a RUN and such a RING."""
    need_groups(book, some)
    if not is_pair(thing) or not is_run(book, thing[0]):
        return False
    run, ring = thing
    if any([many != 1 for many in counts_in(book, run)]) or not is_ring(run, ring):
        return False
    if as_set(groups_in(ring)) != as_tuples(some):
        return False
    return short_ring([(person, letters_of(row, some)) for person, row in run]) == len(ring)


def quiet_sets(book):
    """The set of the greatest sets of groups such that no RUN has a RING with LETTERS of these alone."""
    quiet = {some: True for some in all_subsets(groups(book)) if not can_ring_of(book, some)}
    return tuple(sorted([
        some
        for some in quiet
        if not any([as_set(some + (group,)) in quiet for group in groups(book) if group not in some])
    ]))


def most_quiet(book):
    """Of these sets the least of those with the most groups."""
    sets = quiet_sets(book)
    most = max([len(some) for some in sets])
    return [some for some in sets if len(some) == most][0]


def pairs_apart(book):
    """The set of the pairs of groups, the lesser one first, about LETTERS of which two people disagree in some RUN."""
    return tuple([pair for pair in all_pairs(groups(book)) if len(in_both(book, pair[0], pair[1])) > 1])


def agree_always(book):
    """Whether in no RUN two people disagree."""
    return not pairs_apart(book)


def can_be_ring(book, row):
    """Whether these LETTERS are a RING of some RUN."""
    letters = as_tuples(row)
    return _can_be_seen(book, list(zip(letters, letters[1:] + letters[:1])), {})


def _can_be_seen(book, steps, told):
    """Whether people can see these steps in some RUN, besides the steps of each person in told."""
    if not steps:
        return True
    one, other = steps[0]
    for person in in_both(book, one[0], other[0]):
        own = told.get(person, []) + [steps[0]]
        if can_be_woven(own + rising_rows(letters_in(own))) and _can_be_seen(book, steps[1:], {**told, person: own}):
            return True
    return False
