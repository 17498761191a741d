"""Classes of groups: who shares an orderer, and whether that is enough."""

from math import comb

from orderrings.books import groups, groups_of, people
from orderrings.choices import all_pairs, all_subsets
from orderrings.circles import can_be_woven
from orderrings.errors import NoNumber
from orderrings.judged import is_ring
from orderrings.kinds import as_set, as_tuples, is_pair
from orderrings.rings import pairs_apart
from orderrings.rows import letters_of, numbered, rows_in
from orderrings.runs import counts_in, is_run
from orderrings.webs import blocks, is_round, round_from, way_between


def is_classes(book, thing):
    """Whether thing is CLASSES of the BOOK."""
    if not isinstance(thing, tuple) or not all([isinstance(some, tuple) and some for some in thing]):
        return False
    names = [name for some in thing for name in some]
    if not all([isinstance(name, str) for name in names]) or tuple(sorted(names)) != groups(book):
        return False
    return thing == tuple(sorted([as_set(some) for some in thing]))


def lone_classes(book):
    """The CLASSES in which each group is by itself."""
    return tuple([(group,) for group in groups(book)])


def one_class(book):
    """The CLASSES in which all groups are in one class."""
    return (groups(book),)


def keeps_classes(book, classes, run):
    """Whether the RUN keeps the CLASSES."""
    rows = rows_in(run)
    return all([can_be_woven([letters_of(row, some) for row in rows]) for some in classes])


def are_right(book, classes):
    """Whether no RUN that keeps the CLASSES has a RING."""
    return is_coarser(classes, finest_right(book))


def _class_of(classes):
    """A dict that leads from each group to its class."""
    return {group: some for some in as_tuples(classes) for group in some}


def split_round(book, classes):
    """A ROUND whose groups are not all in one class; None if there is none."""
    class_of = _class_of(classes)
    for person in people(book):
        others = tuple([(group, tuple([name for name in members if name != person])) for group, members in book])
        for one, other in all_pairs(groups_of(book, person)):
            # Round each such ROUND some person stands between groups of two classes.
            way = way_between(others, one, other) if class_of[one] != class_of[other] else None
            if way is not None:
                return round_from(book, way + (person,))
    return None


def is_split(classes, way):
    """Whether the groups of this ROUND are not all in one class."""
    class_of = _class_of(classes)
    return any([class_of[group] != class_of[way[0]] for group in way[0::2]])


def is_split_round(book, classes, thing):
    """Whether thing is a ROUND whose groups are not all in one class."""
    return is_round(book, thing) and is_split(classes, thing)


def class_ring(book, classes):
    """A RUN with one LETTER of each group that keeps the CLASSES, and a RING of it; None if there is none."""
    way = split_round(book, classes)
    if way is None:
        return None
    class_of = _class_of(classes)
    stops, links = way[0::2], way[1::2]
    # The RING ends where a class ends: so all steps within a class fit one order of all groups.
    start = [at for at in range(len(stops)) if class_of[stops[at - 1]] != class_of[stops[at]]][0]
    stops, links = stops[start:] + stops[:start], links[start:] + links[:start]
    order = stops + tuple([group for group in groups(book) if group not in stops])
    run = []
    for person in people(book):
        # Whoever stands in the ROUND has one step to see: the class of its first LETTER comes first.
        ahead = class_of[stops[links.index(person)]] if person in links else ()
        run.append((person, _row_in_order(groups_of(book, person), order, ahead)))
    return (tuple(run), numbered(stops))


def _row_in_order(own, order, ahead):
    """The row of one LETTER of each of these groups, those of ahead first, otherwise in this order of all groups."""
    first = [group for group in order if group in own and group in ahead]
    return numbered(first + [group for group in order if group in own and group not in ahead])


def is_class_ring(book, classes, thing):
    """Whether thing is a pair of such a RUN and a RING of it."""
    if not is_pair(thing) or not is_run(book, thing[0]):
        return False
    run, ring = thing
    one_each = all([many == 1 for many in counts_in(book, run)])
    return one_each and keeps_classes(book, classes, run) and is_ring(run, ring)


def merged(sets):
    """The CLASSES with the most classes of these groups such that each of these sets lies within one."""
    found = []
    for some in sets:
        touched = [other for other in found if any([group in other for group in some])]
        apart = [other for other in found if other not in touched]
        found = apart + [as_set([group for own in touched + [some] for group in own])]
    return tuple(sorted(found))


def finest_right(book):
    """The right CLASSES with the most classes."""
    # Any two groups of a BLOCK are on one ROUND.
    return merged([[group for group, _ in block] for block in blocks(book)])


def must_join(book):
    """The set of the pairs of groups, the lesser one first, that are in one class of all right CLASSES."""
    return as_set([pair for some in finest_right(book) for pair in all_pairs(some)])


def is_coarser(one, other):
    """Whether CLASSES one are coarser than CLASSES other: each class of other lies within one of one."""
    class_of = _class_of(one)
    return all([group in class_of[some[0]] for some in other for group in some])


def joined_classes(one, other):
    """The CLASSES with the most classes that are coarser than both."""
    return merged(as_tuples(one) + as_tuples(other))


def common_classes(one, other):
    """The CLASSES with the fewest classes than which both are coarser."""
    met = [tuple([group for group in some if group in own]) for some in one for own in other]
    return tuple(sorted([some for some in met if some]))


def mended(book, classes):
    """The right CLASSES with the most classes that are coarser than these."""
    return joined_classes(classes, finest_right(book))


def fewest_joins(book, classes):
    """How often, at the least, two classes must be made one until they are right."""
    return len(classes) - len(mended(book, classes))


def least_joins(book, classes):
    """The least tuple of so many pairs of groups such that the CLASSES are right once the classes of each are one."""
    aim = _class_of(mended(book, classes))
    joined = as_tuples(classes)
    found = []
    # Each pair has to make two classes one: so the first pair that does so never bars the way.
    for pair in all_pairs(groups(book)):
        if pair[1] in aim[pair[0]] and pair[1] not in _class_of(joined)[pair[0]]:
            found.append(pair)
            joined = merged(joined + (pair,))
    return tuple(found)


def how_many_partings(many):
    """In how many ways so many things can be parted into sets."""
    ways = [1]
    for size in range(many):
        ways.append(sum([comb(size, less) * ways[less] for less in range(size + 1)]))
    return ways[many]


def how_many_right(book):
    """How many right CLASSES there are."""
    return how_many_partings(len(finest_right(book)))


def _first_classes(left):
    """The ascending list of the pairs of a first class that these classes can be joined to, and those then left."""
    choices = [left[:1] + more for more in all_subsets(left[1:])]
    return sorted([
        (as_set([group for some in chosen for group in some]), tuple([some for some in left if some not in chosen]))
        for chosen in choices
    ])


def nth_right(book, number):
    """The right CLASSES with this number."""
    left = finest_right(book)
    if not 0 <= number < how_many_partings(len(left)):
        raise NoNumber(number)
    found = []
    place = number
    while left:
        for first, rest in _first_classes(left):
            ways = how_many_partings(len(rest))
            if place < ways:
                break
            place = place - ways
        found.append(first)
        left = rest
    return tuple(found)


def number_of_right(book, classes):
    """The number of the right CLASSES; None if they are not right."""
    if not are_right(book, classes):
        return None
    left = finest_right(book)
    number = 0
    for some in as_tuples(classes):
        choices = _first_classes(left)
        number = number + sum([how_many_partings(len(rest)) for first, rest in choices if first < some])
        left = dict(choices)[some]
    return number


def pairs_agree(book, classes):
    """Whether in no RUN that keeps the CLASSES two people disagree."""
    class_of = _class_of(classes)
    return all([other in class_of[one] for one, other in pairs_apart(book)])
