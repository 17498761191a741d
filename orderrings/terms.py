"""Terms: people who come and go, and whether letters can then be seen round."""

from orderrings.circles import can_be_woven
from orderrings.errors import CanNot, NoTerm, Unfit
from orderrings.kinds import as_set, as_tuples, is_letter, is_name, is_number, is_pair
from orderrings.rows import groups_in, letters_in, rising_rows, rows_in


def is_terms(thing):
    """Whether thing is TERMS, of however many."""
    if not isinstance(thing, tuple) or not all([_is_term(term) for term in thing]):
        return False
    return all([_comes_ahead(low, high) for low, high in zip(thing, thing[1:])])


def _is_term(thing):
    if not isinstance(thing, tuple) or len(thing) != 4:
        return False
    group, person, first, last = thing
    if not is_name(group) or not is_name(person) or not is_number(first) or first < 1:
        return False
    return last is None or (is_number(last) and last >= first)


def _comes_ahead(low, high):
    """Whether the one TERM stands ahead of the other one, and is over by then if both are of one person and group."""
    if low[:2] != high[:2]:
        return low[:2] < high[:2]
    return low[3] is not None and low[3] < high[2]


def _reaches(last, number):
    """Whether a TERM with this last number goes on up to the LETTER with the other number."""
    return last is None or last >= number


def getters(terms, group, number):
    """The set of the people who get the LETTER of this group with this number."""
    return as_set([
        person
        for name, person, first, last in terms
        if name == group and first <= number and _reaches(last, number)
    ])


def terms_of(terms, person):
    """Those of the TERMS that are of this person."""
    return tuple([term for term in as_tuples(terms) if term[1] == person])


def _own_terms(terms, group, person):
    """Those of the TERMS that are of this group and this person."""
    return [term for term in terms if (term[0], term[1]) == (group, person)]


def _next_got(own, number):
    """The number of the next LETTER behind this number that some of these TERMS of one group let get, or None."""
    nexts = [(max(term[2], number + 1), term[3]) for term in own]
    return min([least for least, last in nexts if _reaches(last, least)], default=None)


def _spans(terms):
    """A dict that leads from each pair (group, person) of the TERMS to its least first and its greatest last number."""
    spans = {}
    for group, person, first, last in terms:
        least = spans.get((group, person), (first, last))[0]
        spans[(group, person)] = (least, last)
    return spans


def can_loop(terms):
    """Whether some WEEK of the TERMS has a LOOP."""
    return closed_way(terms) is not None


def closed_way(terms):
    """A CLOSED WAY with as few groups as can be; None if there is none."""
    spans = _spans(terms)
    ways = list(spans)
    while ways:
        for way in ways:
            if len(way) > 2 and _can_lead(spans, way[0], way[-1], way[1]):
                return way
        ways = _longer(spans, ways)
    return None


def _longer(spans, ways):
    """These ways with one group and one person more, nobody twice, no group below the first one."""
    return [
        way + (group, person)
        for way in ways
        for group, person in spans
        if group > way[0] and group not in way[0::2] and person not in way[1::2]
        if _can_lead(spans, group, way[-1], person)
    ]


def _can_lead(spans, group, one, other):
    """Whether one can lead to this group and the other one on from it."""
    if (group, one) not in spans or (group, other) not in spans:
        return False
    return _reaches(spans[(group, other)][1], spans[(group, one)][0])


def is_closed_way(terms, thing):
    """Whether thing is a CLOSED WAY of the TERMS, with however many groups."""
    if not isinstance(thing, tuple) or not all([isinstance(name, str) for name in thing]):
        return False
    stops, links = thing[0::2], thing[1::2]
    if len(stops) != len(links) or len(stops) < 2:
        return False
    if len(as_set(stops)) < len(stops) or len(as_set(links)) < len(links):
        return False
    spans = _spans(terms)
    steps = list(zip(stops, links[-1:] + links[:-1], links))
    return all([_can_lead(spans, group, one, other) for group, one, other in steps])


def is_week(terms, thing):
    """Whether thing is a WEEK of the TERMS."""
    names = as_set([term[1] for term in terms])
    if not isinstance(thing, tuple) or len(thing) != len(names):
        return False
    if not all([_is_entry(pair, name, terms) for pair, name in zip(thing, names)]):
        return False
    row_of = dict(thing)
    limits = {}
    for group, person in _spans(terms):
        limit = _limits(_own_terms(terms, group, person), [number for name, number in row_of[person] if name == group])
        if limit is None:
            return False
        limits.setdefault(group, []).append(limit)
    return all([_is_one_number(some) for some in limits.values()])


def _is_entry(thing, name, terms):
    """Whether thing is a pair of this person and a row of LETTERS of groups of which the person has TERMS."""
    if not is_pair(thing) or thing[0] != name or not isinstance(thing[1], tuple):
        return False
    if not all([is_letter(letter) for letter in thing[1]]):
        return False
    own = [term[0] for term in terms_of(terms, name)]
    return all([group in own for group in groups_in(thing[1])])


def _limits(own, numbers):
    """How few and how many LETTERS a group can have of which just those with these numbers are got by these TERMS.

    The most is None if there can be ever so many; None if a group has no such number of LETTERS.
    """
    least = 0
    for number in numbers:
        if number != _next_got(own, least):
            return None
        least = number
    missing = _next_got(own, least)
    return (least, None if missing is None else missing - 1)


def _is_one_number(limits):
    """Whether some number is within all these pairs of the least and the most."""
    least = max([low for low, _ in limits])
    return all([_reaches(most, least) for _, most in limits])


def has_loop(terms, week):
    """Whether this WEEK of the TERMS has a LOOP."""
    rows = rows_in(week)
    # LETTERS that nobody gets can be left out: those of their group beside them are ahead of one another, too.
    return not can_be_woven(rows + rising_rows(letters_in(rows)))


def looping_week(terms):
    """A WEEK with a LOOP in which no group has more than 4 LETTERS; None if none has one."""
    way = closed_way(terms)
    if way is None:
        return None
    stops, links = way[0::2], way[1::2]
    counts = {}
    for group, one, other in zip(stops, links[-1:] + links[:-1], links):
        # One gets a LETTER of the group, and other the last one: it is the same one, or behind it.
        least = _next_got(_own_terms(terms, group, one), 0)
        counts[group] = _next_got(_own_terms(terms, group, other), least - 1)
    week = []
    for person in as_set([term[1] for term in terms]):
        start = links.index(person) if person in links else 0
        order = stops[start:] + stops[:start]
        week.append((person, _row_got(terms, person, [(group, counts[group]) for group in order])))
    return tuple(week)


def _row_got(terms, person, counts):
    """The row of the LETTERS that this person gets if these groups have so many, one group behind another."""
    return tuple([
        (group, number)
        for group, many in counts
        for number in range(1, many + 1)
        if person in getters(terms, group, number)
    ])


def _term_at(terms, place):
    """The TERM at this place; raises NoTerm if there is none."""
    if not 0 <= place < len(terms):
        raise NoTerm(place)
    return as_tuples(terms[place])


def _is_calm_with(terms, place, term):
    """Whether no WEEK has a LOOP if this TERM stands at the place."""
    changed = as_tuples(terms)
    return not can_loop(changed[:place] + (term,) + changed[place + 1:])


def latest_last(terms, place):
    """The greatest last number of this TERM with which no WEEK has a LOOP; None if there is no greatest one."""
    group, person, first, _ = _term_at(terms, place)
    later = [term[2] for term in _own_terms(terms, group, person) if term[2] > first]
    # A greater last number matters only where it reaches one more of the first numbers.
    firsts = as_set([term[2] for term in terms if term[0] == group and term[2] > first])
    lasts = [number - 1 for number in firsts if not later or number <= min(later)]
    if not later:
        lasts.append(None)
    for last in lasts[::-1]:
        if _is_calm_with(terms, place, (group, person, first, last)):
            return last
    raise CanNot()


def earliest_first(terms, place):
    """The least first number of this TERM with which no WEEK has a LOOP."""
    group, person, first, last = _term_at(terms, place)
    earlier = [term[3] for term in _own_terms(terms, group, person) if term[2] < first]
    least = max(earlier, default=0) + 1
    for number in _first_numbers(terms, group):
        start = max(number, least)
        if _reaches(last, start) and _is_calm_with(terms, place, (group, person, start, last)):
            return start
    raise CanNot()


def _first_numbers(terms, group):
    """The ascending first numbers that can matter: 1, and each one behind the last number of a TERM of the group."""
    return as_set([1] + [term[3] + 1 for term in terms if term[0] == group and term[3] is not None])


def earliest_join(terms, group, person):
    """The least first number of one more TERM, on and on, with which no WEEK has a LOOP; None if there is none."""
    if _own_terms(terms, group, person):
        raise Unfit()
    for first in _first_numbers(terms, group):
        if not can_loop(as_tuples(terms) + ((group, person, first, None),)):
            return first
    return None


def may_swap(terms, group, one, other, number):
    """Whether no WEEK has a LOOP if one gets the LETTERS of the group below this number, and other those from it on."""
    changed = [term for term in as_tuples(terms) if term[0] != group or term[1] not in (one, other)]
    if number > 1:
        changed.append((group, one, 1, number - 1))
    changed.append((group, other, number, None))
    return not can_loop(changed)
