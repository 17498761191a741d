"""Trees of people: ties along which letters are handed on."""

from orderrings.books import groups, groups_of, members_of, need_person, people
from orderrings.choices import all_pairs, subsets_of_size
from orderrings.classes import merged
from orderrings.errors import Unfit
from orderrings.kinds import as_set, as_tuples, is_letter, is_pair, rises
from orderrings.rows import letters_in, letters_of, rows_in
from orderrings.runs import weaving


def is_tree(book, thing):
    """Whether thing is a TREE of the BOOK."""
    names = people(book)
    if not isinstance(thing, tuple) or len(thing) != len(names) - 1:
        return False
    ties = all_pairs(names)
    if not all([pair in ties for pair in thing]) or not rises(thing):
        return False
    # So few ties leave nobody out only if none of them closes a circle.
    return len(_hanging_sets(names, thing)) == 1


def _hanging_sets(names, ties):
    """The set of the greatest sets of these people who hang together by these ties among themselves."""
    inner = [tie for tie in ties if tie[0] in names and tie[1] in names]
    return merged([(name,) for name in names] + inner)


def _hang_together(ties, one, other):
    """Whether these two people hang together by these ties."""
    names = as_set([name for tie in ties for name in tie] + [one, other])
    return any([one in some and other in some for some in _hanging_sets(names, ties)])


def passers(book, tree, group):
    """The set of the fewest people who hang together by the TREE and have all members of the group among them."""
    members = members_of(book, group)
    names, ties = people(book), as_tuples(tree)
    idle = _idle(names, ties, members)
    while idle:
        names = tuple([name for name in names if name not in idle])
        ties = [tie for tie in ties if tie[0] in names and tie[1] in names]
        idle = _idle(names, ties, members)
    return names


def _idle(names, ties, members):
    """Those of these people who are no members and have no two ties: nobody gets anything by them."""
    return [name for name in names if name not in members and len([tie for tie in ties if name in tie]) < 2]


def strangers(book, tree, group):
    """The set of the passers of the group who are no members of it."""
    members = members_of(book, group)
    return tuple([person for person in passers(book, tree, group) if person not in members])


def pieces(book, tree, group):
    """The set of the greatest sets of members of the group who hang together by ties among members."""
    return _hanging_sets(members_of(book, group), as_tuples(tree))


def all_strangers(book, tree):
    """How many strangers all groups have together."""
    return sum([len(strangers(book, tree, group)) for group in groups(book)])


def all_pieces(book, tree):
    """How many pieces all groups have together."""
    return sum([len(pieces(book, tree, group)) for group in groups(book)])


def groups_with(book, one, other):
    """The set of the groups that have both people."""
    need_person(book, one)
    need_person(book, other)
    if one == other:
        raise Unfit()
    others = groups_of(book, other)
    return tuple([group for group in groups_of(book, one) if group in others])


def _worths(book):
    """A dict that leads from each tie, ascending, to the number of groups that have both its people."""
    return {(one, other): len(groups_with(book, one, other)) for one, other in all_pairs(people(book))}


def fewest_pieces(book):
    """The least number of pieces that all groups together have by a TREE."""
    return all_pieces(book, a_best_tree(book))


def a_best_tree(book):
    """A TREE by which all groups together have the fewest pieces."""
    # Each tie saves as many pieces as there are groups with both people: so those that save most come first.
    found = []
    for _, tie in sorted([(-worth, tie) for tie, worth in _worths(book).items()]):
        if not _hang_together(found, tie[0], tie[1]):
            found.append(tie)
    return tuple(sorted(found))


def is_best_tree(book, thing):
    """Whether thing is a TREE by which all groups together have the fewest pieces."""
    return is_tree(book, thing) and all_pieces(book, thing) == fewest_pieces(book)


def surely_tied(book):
    """The set of the ties that are in all TREES with the fewest pieces."""
    worths = _worths(book)
    return tuple([
        tie
        for tie, worth in worths.items()
        if not _hang_together([other for other in worths if other != tie and worths[other] >= worth], tie[0], tie[1])
    ])


def maybe_tied(book):
    """The set of the ties that are in some TREES with the fewest pieces."""
    worths = _worths(book)
    return tuple([
        tie
        for tie, worth in worths.items()
        if not _hang_together([other for other in worths if worths[other] > worth], tie[0], tie[1])
    ])


def _all_trees(book):
    """The ascending list of all TREES."""
    names = people(book)
    return [ties for ties in subsets_of_size(all_pairs(names), len(names[1:])) if is_tree(book, ties)]


def best_trees(book):
    """The ascending list of all TREES by which all groups together have the fewest pieces."""
    few = fewest_pieces(book)
    return [tree for tree in _all_trees(book) if all_pieces(book, tree) == few]


def plain_tree(book):
    """A TREE without strangers; None if there is none."""
    # A group has no strangers exactly if it has one piece: and fewer than one it never has.
    tree = a_best_tree(book)
    return tree if all_strangers(book, tree) == 0 else None


def is_plain_tree(book, thing):
    """Whether thing is a TREE without strangers."""
    return is_tree(book, thing) and all_strangers(book, thing) == 0


def fewest_strangers(book):
    """The least number of strangers that all groups together have by a TREE."""
    return min([all_strangers(book, tree) for tree in _all_trees(book)])


def quiet_tree(book):
    """A TREE by which all groups together have the fewest strangers."""
    few = fewest_strangers(book)
    return [tree for tree in _all_trees(book) if all_strangers(book, tree) == few][0]


def is_quiet_tree(book, thing):
    """Whether thing is a TREE by which all groups together have the fewest strangers."""
    return is_tree(book, thing) and all_strangers(book, thing) == fewest_strangers(book)


def comes_by(book, tree, run):
    """Whether the RUN comes by the TREE."""
    return belts_for(book, tree, run) is not None


def _passed_groups(book, tree):
    """A dict that leads from each person, ascending, to the list of the groups whose passer the person is."""
    passed = {person: [] for person in people(book)}
    for group in groups(book):
        for person in passers(book, tree, group):
            passed[person].append(group)
    return passed


def belts_for(book, tree, run):
    """BELTS of the TREE and the RUN; None if there are none."""
    # Belts cut out of a WEAVING never stand against one another; a RUN without one comes by no TREE.
    woven = weaving(run)
    if woven is None:
        return None
    return tuple([(person, letters_of(woven, some)) for person, some in _passed_groups(book, tree).items()])


def are_belts(book, tree, run, thing):
    """Whether thing is BELTS of the TREE and the RUN."""
    row_of = dict(as_tuples(run))
    if not isinstance(thing, tuple) or not all([is_pair(pair) for pair in thing]):
        return False
    if [name for name, _ in thing] != list(row_of):
        return False
    letters = letters_in(rows_in(run))
    passed = _passed_groups(book, tree)
    for person, belt in thing:
        if not _is_row_of(belt, letters_of(letters, passed[person])):
            return False
        if letters_of(belt, groups_of(book, person)) != row_of[person]:
            return False
    belts = dict(thing)
    return all([_stand_alike(belts[one], belts[other]) for one, other in tree])


def _is_row_of(thing, letters):
    """Whether thing is a tuple of these ascending LETTERS, each once."""
    if not isinstance(thing, tuple) or not all([is_letter(letter) for letter in thing]):
        return False
    return tuple(sorted(thing)) == letters


def _stand_alike(one, other):
    """Whether the LETTERS that both belts have stand in the same order on both."""
    return [letter for letter in one if letter in other] == [letter for letter in other if letter in one]
