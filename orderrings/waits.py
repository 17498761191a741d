"""Waiting by stamps: who must wait for whom so that no letters are seen round."""

from orderrings.books import groups_of, need_person, people
from orderrings.choices import all_pairs
from orderrings.judged import is_ring
from orderrings.kinds import as_set, as_tuples, is_letter, is_number, is_pair, rises
from orderrings.rows import letters_in, letters_of, numbered, rising_rows, rows_in
from orderrings.runs import is_run
from orderrings.weavings import least_weaving
from orderrings.webs import way_between


def is_waits(book, thing):
    """Whether thing is WAITS of the BOOK."""
    if not isinstance(thing, tuple):
        return False
    every = all_waits(book)
    return all([wait in every for wait in thing]) and rises(thing)


def all_waits(book):
    """The set of all WAITS of the BOOK."""
    return tuple([
        (person, one, other)
        for person in people(book)
        for one, other in all_pairs(groups_of(book, person))
    ])


def _way_round(book, wait):
    """A way from the one group of this WAIT to the other one by none of its person's other groups, nor by this person.

    None if there is none: the WAIT is needed exactly if there is one.
    """
    person, one, other = wait
    left = [
        (group, [name for name in members if name != person])
        for group, members in book
        if group in (one, other) or person not in members
    ]
    return way_between(left, one, other)


def needed_waits(book):
    """The set of the needed WAITS of the BOOK."""
    return tuple([wait for wait in all_waits(book) if _way_round(book, wait) is not None])


def waits_of(book, person):
    """The set of the pairs of groups of the needed WAITS of this person."""
    need_person(book, person)
    return tuple([(one, other) for name, one, other in needed_waits(book) if name == person])


def are_enough_waits(book, waits):
    """Whether no RUN that keeps these WAITS, by whatever STAMPS, has a RING."""
    return not missing_waits(book, waits)


def missing_waits(book, waits):
    """The set of the needed WAITS that are not among these."""
    given = as_tuples(waits)
    return tuple([wait for wait in needed_waits(book) if wait not in given])


def spare_waits(book, waits):
    """The set of those of these WAITS that are not needed."""
    needed = needed_waits(book)
    return tuple([wait for wait in as_tuples(waits) if wait not in needed])


def is_stamps(run, thing):
    """Whether thing is STAMPS of the RUN."""
    if not isinstance(thing, tuple) or not all([_is_stamped(pair) for pair in thing]):
        return False
    letters = letters_in(rows_in(run))
    if tuple([letter for letter, _ in thing]) != letters or len(as_set([stamp for _, stamp in thing])) < len(thing):
        return False
    stamp_of = dict(thing)
    return all([rises([stamp_of[letter] for letter in row]) for row in rising_rows(letters)])


def _is_stamped(thing):
    """Whether thing is a pair of a LETTER and a stamp."""
    return is_pair(thing) and is_letter(thing[0]) and is_number(thing[1]) and thing[1] >= 1


def keeps_waits(run, stamps, waits):
    """Whether the RUN keeps the WAITS by the STAMPS."""
    return not broken_waits(run, stamps, waits)


def broken_waits(run, stamps, waits):
    """The set of those of the WAITS that the RUN does not keep by the STAMPS."""
    stamp_of = dict(as_tuples(stamps))
    return tuple([
        wait
        for wait in as_tuples(waits)
        if not rises([stamp_of[letter] for letter in _waiting_row(run, wait)])
    ])


def _waiting_row(run, wait):
    """The row of the person of this WAIT, cut to the LETTERS of its two groups."""
    return letters_of(dict(as_tuples(run))[wait[0]], wait[1:])


def stamps_for(run, waits):
    """STAMPS by which the RUN keeps the WAITS; None if there are none."""
    rising = rising_rows(letters_in(rows_in(run)))
    order = least_weaving(rising + [_waiting_row(run, wait) for wait in as_tuples(waits)])
    if order is None:
        return None
    return tuple(sorted([(letter, place + 1) for place, letter in enumerate(order)]))


def is_stamps_for(run, waits, thing):
    """Whether thing is STAMPS by which the RUN keeps the WAITS."""
    return is_stamps(run, thing) and keeps_waits(run, thing, waits)


def ring_in_spite(book, waits):
    """A triple of a RUN, STAMPS by which it keeps the WAITS, and a RING of it; None if there is none."""
    missing = missing_waits(book, waits)
    if not missing:
        return None
    person = missing[0][0]
    stops = _way_round(book, missing[0])[0::2]
    run = []
    for name in people(book):
        # This person alone gets anything against the STAMPS: the last LETTER ahead of the first one, and no others.
        order = stops[::-1] if name == person else stops
        own = groups_of(book, name)
        run.append((name, numbered([group for group in order if group in own])))
    ring = numbered(stops)
    stamps = tuple(sorted([(letter, place + 1) for place, letter in enumerate(ring)]))
    return (tuple(run), stamps, ring)


def is_ring_in_spite(book, waits, thing):
    """Whether thing is such a triple."""
    if not isinstance(thing, tuple) or len(thing) != 3:
        return False
    run, stamps, ring = thing
    return is_run(book, run) and is_stamps_for(run, waits, stamps) and is_ring(run, ring)


def shown_row(book, waits, person, came):
    """The tuple of what is shown to this person of what came so far, in the order in which it is."""
    need_person(book, person)
    own = [wait for wait in as_tuples(waits) if wait[0] == person]
    arrived, shown = [], []
    for pair in as_tuples(came):
        arrived.append(pair)
        # What came first is shown first: so all of it is looked through again behind each that is shown.
        ready = _ready(own, arrived, shown)
        while ready:
            shown.append(ready[0])
            ready = _ready(own, arrived, shown)
    return tuple(shown)


def _ready(own, arrived, shown):
    """The list of what came and can be shown now, as it came."""
    return [pair for pair in arrived if pair not in shown and _can_show(own, arrived, shown, pair)]


def _can_show(own, arrived, shown, pair):
    """Whether nothing can come any more that is to be shown ahead of this, and all such that came is shown."""
    group, stamp = pair
    beside = [other for _, one, two in own for other in (one, two) if group in (one, two) and other != group]
    if not all([any([name == other and late > stamp for name, late in arrived]) for other in beside]):
        return False
    waited = beside + [group]
    return all([early in shown for early in arrived if early[0] in waited and early[1] < stamp])


def held_back(book, waits, person, came):
    """The set of what came to this person and is not shown."""
    shown = shown_row(book, waits, person, came)
    return tuple(sorted([pair for pair in as_tuples(came) if pair not in shown]))
