"""Told runs judged: their rings, who sees them, and what would mend them."""

from orderrings.books import cut_to, groups, people
from orderrings.choices import least_subset
from orderrings.circles import all_behind, behind_of, can_be_woven, circles_from, shortest_circle
from orderrings.kinds import as_set, as_tuples, is_letter, rises
from orderrings.rows import letters_in, letters_of, rows_in


def _stands_ahead(row, one, other):
    """Whether one of these LETTERS stands in this row, and the other one behind it."""
    return one in row and other in row[row.index(one) + 1:]


def seen_by(run, one, other):
    """The set of the people in whose rows one stands ahead of other."""
    first, second = as_tuples(one), as_tuples(other)
    return tuple([person for person, row in as_tuples(run) if _stands_ahead(row, first, second)])


def _steps(ring):
    """The list of the steps of the RING: from each LETTER to the next one, from the last one to the first one."""
    return list(zip(ring, ring[1:] + ring[:1]))


def is_ring(run, thing):
    """Whether thing is a RING of the RUN."""
    if not isinstance(thing, tuple) or not all([is_letter(letter) for letter in thing]):
        return False
    if len(thing) < 2 or len(as_set(thing)) < len(thing):
        return False
    behind = behind_of(rows_in(run))
    return all([other in behind.get(one, []) for one, other in _steps(thing)])


def seers_of(run, ring):
    """For each LETTER of the RING the set of the people who see it ahead of the next one."""
    return tuple([seen_by(run, one, other) for one, other in _steps(ring)])


def short_ring(run):
    """How many LETTERS a short RING of the RUN has; None if there is no RING."""
    ring = a_ring(run)
    return None if ring is None else len(ring)


def a_ring(run):
    """A short RING of the RUN; None if there is no RING."""
    return shortest_circle(behind_of(rows_in(run)))


def is_short_ring(run, thing):
    """Whether thing is a short RING of the RUN."""
    return is_ring(run, thing) and len(thing) == short_ring(run)


def short_rings(run):
    """The ascending list of all short RINGS of the RUN, each from its least LETTER on."""
    many = short_ring(run)
    if many is None:
        return []
    behind = behind_of(rows_in(run))
    return sorted([ring for start in behind for ring in circles_from(behind, start, many)])


def clashes(run):
    """The set of the pairs of LETTERS, the lesser one first, that people have in both orders."""
    behind = behind_of(rows_in(run))
    return as_set([
        (one, other)
        for one, others in behind.items()
        for other in others
        if one < other and one in behind[other]
    ])


def ring_letters(run):
    """The set of the LETTERS that are in some RING of the RUN."""
    return as_set([letter for letters in mixed_up(run) for letter in letters])


def mixed_up(run):
    """The set of the greatest sets of LETTERS of RINGS that are mixed up with one another."""
    behind = behind_of(rows_in(run))
    far = {letter: all_behind(behind, letter) for letter in behind}
    # Where a way leads from one LETTER to another one and back, each step of it is in some RING.
    return as_set([
        tuple(sorted([other for other in far[letter] if letter in far[other]]))
        for letter in behind
        if letter in far[letter]
    ])


def settled_letters(run):
    """The set of the LETTERS that are in no RING and behind none of one, at once or by others between."""
    behind = behind_of(rows_in(run))
    unsettled = {letter: True for start in ring_letters(run) for letter in all_behind(behind, start)}
    return tuple(sorted([letter for letter in behind if letter not in unsettled]))


def cut_run(book, run, some):
    """The RUN of the BOOK cut to these groups, without the LETTERS of all other groups."""
    names = people(cut_to(book, some))
    return tuple([(person, letters_of(row, some)) for person, row in as_tuples(run) if person in names])


def least_ring_groups(book, run):
    """Of the sets of groups whose LETTERS alone have a RING the least of those with the fewest groups, or None."""
    rows = rows_in(run)
    return least_subset(groups(book), lambda some: not can_be_woven([letters_of(row, some) for row in rows]))


def against_row(run, row):
    """The set of the people whose LETTERS do not stand in this row of all LETTERS in their order."""
    place_of = {letter: place for place, letter in enumerate(as_tuples(row))}
    return tuple([person for person, own in as_tuples(run) if not rises([place_of[letter] for letter in own])])


def least_people_off(run):
    """Of the sets of people without whose rows no RING is left the least of those with the fewest people."""
    row_of = dict(as_tuples(run))
    return least_subset(
        list(row_of), lambda off: can_be_woven([row for person, row in row_of.items() if person not in off])
    )


def mending_swaps(run):
    """The set of the pairs (person, place) such that no RING is left if this LETTER and the next one are exchanged.

    Both are of unlike groups.
    """
    row_of = dict(as_tuples(run))
    return tuple([
        (person, place)
        for person, row in row_of.items()
        for place, (one, other) in enumerate(zip(row, row[1:]))
        if one[0] != other[0] and can_be_woven(_swapped_rows(row_of, person, place))
    ])


def _swapped_rows(row_of, person, place):
    """The list of all rows, in that of this person the LETTERS at the place and at the next one exchanged."""
    row = row_of[person]
    swapped = row[:place] + (row[place + 1], row[place]) + row[place + 2:]
    return [swapped if name == person else own for name, own in row_of.items()]


def least_letters_off(run):
    """Of the sets of LETTERS without which no RING is left the least of those with the fewest LETTERS."""
    rows = rows_in(run)
    return least_subset(letters_in(rows), lambda off: can_be_woven([_without(row, off) for row in rows]))


def _without(row, off):
    return tuple([letter for letter in row if letter not in off])
