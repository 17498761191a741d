"""Runs: what everybody gets, and the weavings of all of it."""

from orderrings.books import groups, groups_of, people
from orderrings.errors import NoNumber, Unfit
from orderrings.kinds import as_set, as_tuples, is_letter, is_pair
from orderrings.rows import counts_of_row, groups_in, how_many_rows, letters_in, letters_of, nth_row, number_of_row
from orderrings.rows import numbered, rows_in
from orderrings.weavings import apart_places, is_all, least_weaving, needs_of, next_letters, nothing_yet, ways_on
from orderrings.weavings import with_letter, woven_runs


def is_run(book, thing):
    """Whether thing is a RUN of the BOOK, of however many LETTERS."""
    names = people(book)
    if not isinstance(thing, tuple) or len(thing) != len(names):
        return False
    counts = {}
    for person, pair in zip(names, thing):
        if not is_pair(pair) or pair[0] != person:
            return False
        row_counts = counts_of_row(pair[1], groups_of(book, person))
        if row_counts is None:
            return False
        for group, many in row_counts.items():
            if counts.setdefault(group, many) != many:
                return False
    return True


def counts_in(book, run):
    """How many LETTERS of each group there are in the RUN, in the order of the groups."""
    rows = dict(as_tuples(run))
    return tuple([len(letters_of(rows[members[0]], (group,))) for group, members in book])


def _counts_for(book, numbers, person):
    """How many LETTERS of each of its groups this person gets, if numbers tells those of all groups."""
    some = groups_of(book, person)
    return {group: many for group, many in zip(groups(book), numbers) if group in some}


def how_many_runs(book, numbers):
    """How many RUNS there are with so many LETTERS of each group."""
    ways = 1
    for person in people(book):
        ways = ways * how_many_rows(_counts_for(book, numbers, person))
    return ways


def nth_run(book, numbers, number):
    """The RUN with this number among those with so many LETTERS of each group."""
    if not 0 <= number < how_many_runs(book, numbers):
        raise NoNumber(number)
    found = []
    left = number
    # The row of the last person changes fastest from a RUN to the next one.
    for person in reversed(people(book)):
        counts = _counts_for(book, numbers, person)
        left, place = divmod(left, how_many_rows(counts))
        found.append((person, nth_row(counts, place)))
    return tuple(found[::-1])


def number_of_run(book, run):
    """The number of the RUN among those with as many LETTERS of each group."""
    numbers = counts_in(book, run)
    number = 0
    for person, row in as_tuples(run):
        counts = _counts_for(book, numbers, person)
        number = number * how_many_rows(counts) + number_of_row(counts, row)
    return number


def is_seen_ahead(run, one, other):
    """Whether one of these LETTERS is seen ahead of the other one."""
    return (as_tuples(one), as_tuples(other)) in seen_pairs(run)


def seen_pairs(run):
    """The set of the pairs (one, other) of LETTERS of which one is seen ahead of other."""
    return as_set([
        (one, other)
        for _, row in as_tuples(run)
        for place, one in enumerate(row)
        for other in row[place + 1:]
    ])


def is_weaving(run, thing):
    """Whether thing is a WEAVING of the RUN."""
    if not isinstance(thing, tuple) or not all([is_letter(letter) for letter in thing]):
        return False
    place_of = {letter: place for place, letter in enumerate(thing)}
    if len(place_of) < len(thing) or as_set(thing) != letters_in(rows_in(run)):
        return False
    return all([place_of[one] < place_of[other] for one, other in seen_pairs(run)])


def weaving(run):
    """The least WEAVING of the RUN; None if there is none."""
    return least_weaving(rows_in(run))


def how_many_weavings(run):
    """How many WEAVINGS the RUN has."""
    needs = needs_of(rows_in(run))
    return ways_on(needs, nothing_yet(needs), {})


def nth_weaving(run, number):
    """The WEAVING of the RUN with this number."""
    needs = needs_of(rows_in(run))
    done = nothing_yet(needs)
    known = {}
    if not 0 <= number < ways_on(needs, done, known):
        raise NoNumber(number)
    found = []
    left = number
    while not is_all(needs, done):
        for letter in next_letters(needs, done):
            ways = ways_on(needs, with_letter(done, letter), known)
            if left < ways:
                break
            left = left - ways
        found.append(letter)
        done = with_letter(done, letter)
    return tuple(found)


def number_of_weaving(run, letters):
    """The number of this WEAVING of the RUN."""
    needs = needs_of(rows_in(run))
    done = nothing_yet(needs)
    known = {}
    number = 0
    for letter in as_tuples(letters):
        for other in next_letters(needs, done):
            if other < letter:
                number = number + ways_on(needs, with_letter(done, other), known)
        done = with_letter(done, letter)
    return number


def run_from(book, letters):
    """The RUN in which each person gets the LETTERS of its groups in this order."""
    letters = as_tuples(letters)
    if counts_of_row(letters, groups(book)) is None:
        raise Unfit()
    return tuple([(person, letters_of(letters, groups_of(book, person))) for person in people(book)])


def run_behind(first, second):
    """The RUN in which each person gets the row of first, then that of second, numbered on."""
    later = dict(as_tuples(second))
    return tuple([(person, numbered(groups_in(row + later[person]))) for person, row in as_tuples(first)])


def turned_run(run):
    """The RUN with each row the other way about, the LETTERS numbered anew."""
    return tuple([(person, numbered(groups_in(row[::-1]))) for person, row in as_tuples(run)])


def first_letters(book, run, numbers):
    """The RUN that is left if of each group only the LETTERS with numbers up to these stay."""
    most = dict(zip(groups(book), numbers))
    return tuple([
        (person, tuple([letter for letter in row if letter[1] <= most[letter[0]]]))
        for person, row in as_tuples(run)
    ])


def how_many_woven(book, numbers):
    """How many of the RUNS with so many LETTERS of each group have a WEAVING."""
    return woven_runs(apart_places(as_tuples(book)), as_tuples(numbers), {})
