"""Hidden orderers: right classes told back by questions, and what runs tell of classes."""

from math import comb

from orderrings.books import groups, need_group
from orderrings.choices import all_pairs, all_partings
from orderrings.circles import can_be_woven
from orderrings.classes import are_right, finest_right, keeps_classes, merged
from orderrings.errors import Unfit
from orderrings.kinds import as_set, as_tuples, rises
from orderrings.rings import can_ring_of
from orderrings.rows import letters_of, rows_in
from orderrings.runs import counts_in, is_run
from orderrings.some import run_round
from orderrings.webs import shortest_round


def is_answers(book, thing):
    """Whether thing is ANSWERS about groups of the BOOK."""
    if not isinstance(thing, tuple) or not all([isinstance(told, tuple) and len(told) == 3 for told in thing]):
        return False
    pairs = all_pairs(groups(book))
    if not all([told[:2] in pairs and isinstance(told[2], bool) for told in thing]):
        return False
    return rises([told[:2] for told in thing])


def _sets_told(book, answers):
    """The set of the greatest sets of groups that are surely in one class with one another."""
    return merged(finest_right(book) + tuple([(one, other) for one, other, same in answers if same]))


def _set_of(sets, group):
    """That one of these sets of groups in which this group is."""
    return [some for some in sets if group in some][0]


def _apart(sets, answers):
    """A dict of the pairs of these sets, in either order, that are told to be in two classes."""
    apart = {}
    for one, other, same in answers:
        if not same:
            first, second = _set_of(sets, one), _set_of(sets, other)
            apart[(first, second)] = apart[(second, first)] = True
    return apart


def can_answer(book, answers):
    """Whether some right CLASSES answer so."""
    sets = _sets_told(book, answers)
    apart = _apart(sets, answers)
    # If no set is apart from itself, the CLASSES of these sets alone answer so.
    return not any([(some, some) in apart for some in sets])


def _need_answers(book, answers):
    """Raises Unfit if no right CLASSES answer so."""
    if not can_answer(book, answers):
        raise Unfit()


def how_many_answer(book, answers):
    """How many right CLASSES answer so."""
    _need_answers(book, answers)
    sets = _sets_told(book, answers)
    apart = _apart(sets, answers)
    return len(all_partings(sets, lambda some: not any([pair in apart for pair in all_pairs(some)])))


def surely_one(book, answers):
    """The set of the pairs of groups that are in one class of all right CLASSES that answer so."""
    _need_answers(book, answers)
    return as_set([pair for some in _sets_told(book, answers) for pair in all_pairs(some)])


def surely_two(book, answers):
    """The set of the pairs of groups that are in two classes of all right CLASSES that answer so."""
    _need_answers(book, answers)
    sets = _sets_told(book, answers)
    apart = _apart(sets, answers)
    pairs = all_pairs(groups(book))
    return tuple([pair for pair in pairs if (_set_of(sets, pair[0]), _set_of(sets, pair[1])) in apart])


def still_hidden(book, answers):
    """The set of all other pairs of groups."""
    told = surely_one(book, answers) + surely_two(book, answers)
    return tuple([pair for pair in all_pairs(groups(book)) if pair not in told])


def asks_left(book, answers):
    """How many pairs are asked at the most, chosen as well as can be, until just one right CLASSES answer so."""
    hidden = still_hidden(book, answers)
    least = [some[0] for some in _sets_told(book, answers)]
    return len([pair for pair in hidden if pair[0] in least and pair[1] in least])


def told_classes(book, asker):
    """The right CLASSES of which asker tells, for two groups, whether they are in one class."""
    found = []
    for some in finest_right(book):
        at = _place_told(found, some[0], asker)
        joined = [group for own in found[at:at + 1] + [some] for group in own]
        found = found[:at] + [joined] + found[at + 1:]
    return tuple([as_set(own) for own in found])


def _place_told(found, group, asker):
    """The place of that one of these classes in which this group is, as asker tells; their number if it is in none."""
    for at, own in enumerate(found):
        # It is enough to ask for one group of each class, and the first one is less than all that come later.
        if asker(own[0], group):
            return at
    return len(found)


def _need_right(book, classes):
    """Raises Unfit if these CLASSES are not right."""
    if not are_right(book, classes):
        raise Unfit()


def asks_to_show(book, classes):
    """How few ANSWERS there can be such that of all right CLASSES these alone answer so."""
    _need_right(book, classes)
    # Sets of groups that surely share have to be joined up to classes, and each two classes told apart.
    return len(finest_right(book)) - len(classes) + comb(len(classes), 2)


def showing_answers(book, classes):
    """So few ANSWERS such that of all right CLASSES these alone answer so."""
    _need_right(book, classes)
    least = [some[0] for some in finest_right(book)]
    joins = [(some[0], group, True) for some in classes for group in some[1:] if group in least]
    splits = [(one[0], other[0], False) for one, other in all_pairs(classes)]
    return tuple(sorted(joins + splits))


def is_showing_answers(book, classes, thing):
    """Whether thing is so few ANSWERS such that of all right CLASSES these alone answer so."""
    few = asks_to_show(book, classes)
    if not is_answers(book, thing) or len(thing) != few or not can_answer(book, thing):
        return False
    return _sets_told(book, thing) == as_tuples(classes) and not still_hidden(book, thing)


def can_share(book, run, one, other):
    """Whether the RUN keeps some CLASSES, right or not, with both groups in one class."""
    need_group(book, one)
    need_group(book, other)
    return _can_be_class(rows_in(run), (one, other))


def _can_be_class(rows, some):
    """Whether one orderer can have numbered all LETTERS of these groups in these rows."""
    return can_be_woven([letters_of(row, some) for row in rows])


def barred_pairs(book, run):
    """The set of the pairs of groups that are in one class of no CLASSES that the RUN keeps."""
    rows = rows_in(run)
    return tuple([pair for pair in all_pairs(groups(book)) if not _can_be_class(rows, pair)])


def classes_kept(book, run):
    """The ascending list of all CLASSES, right or not, that the RUN keeps."""
    rows = rows_in(run)
    return sorted(all_partings(groups(book), lambda some: _can_be_class(rows, some)))


def fewest_orderers(book, run):
    """The least number of classes that CLASSES have that the RUN keeps."""
    return min([len(classes) for classes in classes_kept(book, run)])


def can_be_refuted(book, classes):
    """Whether some RUN does not keep the CLASSES."""
    return any([can_ring_of(book, some) for some in classes])


def refuting_run(book, classes):
    """A RUN with at most one LETTER of each group that does not keep the CLASSES; None if there is none."""
    for some in classes:
        way = shortest_round([(group, members) for group, members in book if group in some])
        if way is not None:
            return run_round(book, way)
    return None


def is_refuting_run(book, classes, thing):
    """Whether thing is a RUN with at most one LETTER of each group that does not keep the CLASSES."""
    if not is_run(book, thing) or any([many > 1 for many in counts_in(book, thing)]):
        return False
    return not keeps_classes(book, classes, thing)
