"""Some people: who surely agrees about the order of letters."""

from orderrings.books import groups_of, memberships, need_person, people
from orderrings.choices import all_subsets
from orderrings.circles import can_be_woven
from orderrings.forests import is_without_round
from orderrings.kinds import as_set, as_tuples, is_name_set, rises
from orderrings.rows import numbered
from orderrings.runs import is_run
from orderrings.webs import is_round, shortest_round


def _need_people(book, some):
    """Raises NoPerson for the first of these who is none of the people."""
    for person in some:
        need_person(book, person)


def agree(book, run, some):
    """Whether the rows of these people agree in the RUN."""
    _need_people(book, some)
    return can_be_woven([row for person, row in as_tuples(run) if person in some])


def surely_agree(book, some):
    """Whether the rows of these people agree in all RUNS."""
    _need_people(book, some)
    return is_without_round([tie for tie in memberships(book) if tie[1] in some])


def round_among(book, some):
    """A ROUND with people of these alone, as few as can be; None if there is none."""
    _need_people(book, some)
    return shortest_round([(group, [person for person in members if person in some]) for group, members in book])


def is_round_among(book, some, thing):
    """Whether thing is a ROUND with people of these alone."""
    _need_people(book, some)
    return is_round(book, thing) and all([person in some for person in thing[1::2]])


def quarrels(book):
    """The ascending list of the sets of people that do not surely agree, while all other sets within them do."""
    agreeing = _agreeing_sets(book)
    return sorted([
        some
        for some in all_subsets(people(book))
        if some not in agreeing and all([_without(some, person) in agreeing for person in some])
    ])


def _agreeing_sets(book):
    """A dict of the sets of people that surely agree."""
    return {some: True for some in all_subsets(people(book)) if surely_agree(book, some)}


def _without(some, person):
    return tuple([other for other in some if other != person])


def greatest_agreeing(book):
    """The ascending list of the sets that surely agree and do not lie within another one that does."""
    agreeing = _agreeing_sets(book)
    return sorted([
        some
        for some in agreeing
        if not any([as_set(some + (person,)) in agreeing for person in people(book) if person not in some])
    ])


def sure_friends(book):
    """The set of the people who are in none of the quarrels."""
    found = quarrels(book)
    return tuple([person for person in people(book) if not any([person in some for some in found])])


def fewest_sets(book):
    """How few sets are enough to part all people such that each set surely agrees."""
    return len(a_parting(book))


def a_parting(book):
    """A set of so few sets of people, each person in just one of them, each of which surely agrees."""
    sets = greatest_agreeing(book)
    # For all people who are left over by some sets the sets that left them.
    reached = {people(book): ()}
    while () not in reached:
        following = {}
        for left, found in reached.items():
            for some in sets:
                if left[0] in some:
                    rest = tuple([person for person in left if person not in some])
                    following.setdefault(rest, found + (tuple([person for person in left if person in some]),))
        reached = following
    return tuple(sorted(reached[()]))


def is_parting(book, thing):
    """Whether thing is such a set of so few sets."""
    if not isinstance(thing, tuple) or not all([is_name_set(some) for some in thing]) or not rises(thing):
        return False
    if tuple(sorted([person for some in thing for person in some])) != people(book):
        return False
    return len(thing) == fewest_sets(book) and all([surely_agree(book, some) for some in thing])


def can_cross(book, one, other):
    """Whether in some RUN the rows of these two people do not agree."""
    return not surely_agree(book, (one, other))


def crossing_run(book, one, other):
    """A RUN in which the rows of these two people do not agree; None if there is none."""
    return quarrel_run(book, (one, other))


def quarrel_run(book, some):
    """A RUN in which the rows of these people do not agree; None if there is none."""
    way = round_among(book, some)
    return None if way is None else run_round(book, way)


def run_round(book, way):
    """A RUN with one LETTER of each group of this ROUND in which they are seen round by the people of it."""
    stops, links = way[0::2], way[1::2]
    run = []
    for person in people(book):
        start = links.index(person) if person in links else 0
        # Whoever stands in the ROUND gets the LETTER of the group ahead, and then that of the group behind.
        order = stops[start:] + stops[:start]
        own = groups_of(book, person)
        run.append((person, numbered([group for group in order if group in own])))
    return tuple(run)


def is_quarrel_run(book, some, thing):
    """Whether thing is a RUN in which the rows of these people do not agree."""
    _need_people(book, some)
    return is_run(book, thing) and not agree(book, thing, some)
