"""Rows of letters: how many there are with so many letters of each group, numbered from 0, ascending."""

from math import comb

from orderrings.kinds import as_set, as_tuples, is_letter


def numbered(some):
    """The row of LETTERS of these groups, one for each time that a group stands there, in this order."""
    counts = {}
    row = []
    for group in some:
        counts[group] = counts.get(group, 0) + 1
        row.append((group, counts[group]))
    return tuple(row)


def groups_in(row):
    """The list of the groups of the LETTERS of this row, in its order."""
    return [group for group, _ in row]


def letters_of(row, some):
    """The LETTERS of this row that are of these groups, in its order."""
    return tuple([letter for letter in row if letter[0] in some])


def rows_in(run):
    """The list of the rows of all people."""
    return [row for _, row in as_tuples(run)]


def letters_in(rows):
    """The set of all LETTERS of these rows."""
    return as_set([letter for row in rows for letter in row])


def rising_rows(letters):
    """For each group the row of its LETTERS among these ascending ones: in the order of their numbers."""
    return [letters_of(letters, (group,)) for group in as_set(groups_in(letters))]


def counts_of_row(thing, some):
    """How many LETTERS of each of these groups thing has; None if it is no row of LETTERS of these groups."""
    if not isinstance(thing, tuple):
        return None
    counts = {group: 0 for group in some}
    for letter in thing:
        if not is_letter(letter) or letter[0] not in counts:
            return None
        counts[letter[0]] += 1
        if letter[1] != counts[letter[0]]:
            return None
    return counts


def how_many_rows(counts):
    """How many rows there are with so many LETTERS of each group; counts is a dict."""
    ways = 1
    length = 0
    for many in counts.values():
        length = length + many
        ways = ways * comb(length, many)
    return ways


def _one_less(counts, group):
    return {other: many - 1 if other == group else many for other, many in counts.items()}


def nth_row(counts, number):
    """The row with this number among those with so many LETTERS of each group."""
    found = []
    while sum(list(counts.values())) > 0:
        group, number = _group_at(counts, number)
        found.append(group)
        counts = _one_less(counts, group)
    return numbered(found)


def _group_at(counts, number):
    """The first group of the row with this number, and the number of the rest among those that can follow."""
    for group in sorted(list(counts)):
        if counts[group] > 0:
            ways = how_many_rows(_one_less(counts, group))
            if number < ways:
                break
            number = number - ways
    return group, number


def number_of_row(counts, row):
    """The number of this row among those with as many LETTERS of each group."""
    number = 0
    for group in groups_in(row):
        for other in sorted(list(counts)):
            if other < group and counts[other] > 0:
                number = number + how_many_rows(_one_less(counts, other))
        counts = _one_less(counts, group)
    return number
