"""Books: the groups and who is in them."""

from orderrings.errors import Known, NoGroup, NoPerson, Unfit
from orderrings.kinds import as_set, as_tuples, is_name, is_name_set, is_pair, rises


def is_book(thing):
    """Whether thing is a BOOK, of however many groups and people."""
    if not isinstance(thing, tuple) or not thing:
        return False
    if not all([_is_entry(entry) for entry in thing]):
        return False
    return rises([group for group, _ in thing])


def _is_entry(thing):
    return is_pair(thing) and is_name(thing[0]) and is_name_set(thing[1])


def groups(book):
    """The set of the groups of the BOOK."""
    return tuple([group for group, _ in book])


def people(book):
    """The set of the people of the BOOK."""
    return as_set([person for _, members in book for person in members])


def need_group(book, group):
    """Raises NoGroup if the BOOK has no such group."""
    if group not in groups(book):
        raise NoGroup(group)


def need_groups(book, some):
    """Raises NoGroup for the first of these that is no group of the BOOK."""
    for group in some:
        need_group(book, group)


def need_person(book, person):
    """Raises NoPerson if nobody in the BOOK has this name."""
    if person not in people(book):
        raise NoPerson(person)


def members_of(book, group):
    """The set of the members of this group."""
    need_group(book, group)
    return _table(book)[group]


def groups_of(book, person):
    """The set of the groups of which this person is a member."""
    need_person(book, person)
    return tuple([group for group, members in book if person in members])


def memberships(book):
    """The set of all MEMBERSHIPS."""
    return tuple([(group, person) for group, members in book for person in members])


def in_both(book, one, other):
    """The set of the people who are members of both groups."""
    need_group(book, one)
    need_group(book, other)
    table = _table(book)
    return tuple([person for person in table[one] if person in table[other]])


def parts(book):
    """The set of the sets of groups that hang together."""
    left = list(groups(book))
    found = []
    while left:
        part = _hanging_with(book, left[0])
        found.append(part)
        left = [group for group in left if group not in part]
    return tuple(found)


def _hanging_with(book, start):
    """The set of the groups that hang together with this one, itself among them."""
    reached = {start: True}
    waiting = [start]
    while waiting:
        here = waiting.pop()
        for group in groups(book):
            if group not in reached and in_both(book, here, group):
                reached[group] = True
                waiting.append(group)
    return tuple(sorted(list(reached)))


def with_group(book, group, members):
    """The BOOK with this group, too."""
    table = _table(book)
    if group in table:
        raise Known(group)
    table[group] = as_tuples(members)
    return _book_of(table)


def without_group(book, group):
    """The BOOK without this group."""
    need_group(book, group)
    return cut_to(book, [other for other in groups(book) if other != group])


def cut_to(book, some):
    """The BOOK with these groups alone."""
    need_groups(book, some)
    return tuple([(group, members) for group, members in as_tuples(book) if group in some])


def with_member(book, group, person):
    """The BOOK in which this person is a member of the group."""
    need_group(book, group)
    table = _table(book)
    table[group] = as_set(table[group] + (person,))
    return _book_of(table)


def without_member(book, group, person):
    """The BOOK in which this person is no member of the group."""
    need_group(book, group)
    need_person(book, person)
    table = _table(book)
    table[group] = tuple([member for member in table[group] if member != person])
    if not table[group]:
        raise Unfit()
    return _book_of(table)


def groups_renamed(book, pairs):
    """The BOOK in which the groups named first in a pair have its second NAME."""
    names = _new_names(groups(book), pairs)
    return _book_of({names[group]: members for group, members in as_tuples(book)})


def people_renamed(book, pairs):
    """The BOOK in which the people named first in a pair have its second NAME."""
    names = _new_names(people(book), pairs)
    return tuple([(group, as_set([names[person] for person in members])) for group, members in book])


def _new_names(old_names, pairs):
    """The new name for each old one; raises Unfit if two of them would be alike."""
    table = _table(pairs)
    names = {name: table.get(name, name) for name in old_names}
    if len(as_set(list(names.values()))) < len(names):
        raise Unfit()
    return names


def turned(book):
    """The BOOK whose groups are the people of this one, the members of each its groups."""
    return tuple([(person, groups_of(book, person)) for person in people(book)])


def _table(pairs):
    """A new dict that leads from the first to the second of each pair."""
    return dict(as_tuples(pairs))


def _book_of(table):
    """The BOOK with these members of each group."""
    return tuple(sorted(list(table.items())))
