"""[12]: people who come and go, against all closed ways, all weeks of few letters and all numbers."""

import functools
import itertools
import random
import unittest

import reading
from checking import Refusing
from drawing import NAMES, THINGS, bent, drawn_row, drawn_terms, gets_nothing_twice
from orderrings import terms as told
from orderrings.errors import CanNot, NoTerm, Unfit

GREAT = 10 ** 30
TERMS = (("g", "a", 1, 3), ("g", "b", 5, None), ("h", "a", 1, None), ("h", "b", 1, None))
MOVED = TERMS[:2] + (("h", "a", 1, 2), ("h", "b", 3, None))


def drawn_all(seed, many, groups, people, greatest, most):
    draw = random.Random(seed)
    return tuple(drawn_terms(draw, groups, people, greatest, most) for _ in range(many))


def moved_up(terms, by):
    return tuple((group, person, first + by, last if last is None else last + by) for group, person, first, last in terms)


SOME = drawn_all(221, 60, "gh", "ab", 4, 6) + drawn_all(222, 150, "ghk", "abc", 5, 9) + drawn_all(236, 80, "ghk", "abc", 6, 6) + (TERMS, MOVED, ())
MORE = drawn_all(223, 60, "ghkm", "abcd", 4, 12) + drawn_all(224, 40, "ghkm", "abcde", 6, 14)
TINY = drawn_all(225, 220, "gh", "ab", 2, 5) + drawn_all(226, 220, "ghk", "abc", 2, 6) + drawn_all(227, 150, "gh", "abc", 3, 6)
EIGHT = drawn_all(228, 25, "abcdefgh", "pqrstuvw", 9, 20) + drawn_all(229, 15, "abcde", "pqrs", 4, 20)


def is_terms(thing):
    if type(thing) is not tuple or any(type(term) is not tuple or len(term) != 4 for term in thing):
        return False
    for group, person, first, last in thing:
        if not reading.is_name(group) or not reading.is_name(person) or type(first) is not int or first < 1:
            return False
        if last is not None and (type(last) is not int or last < first):
            return False
    for one, other in itertools.combinations(thing, 2):
        # No two TERMS with the same three first ones are TERMS: both would get the LETTER first.
        if one[:3] >= other[:3] or not gets_nothing_twice([one], other):
            return False
    return True


def gets(terms, person, group, number):
    for name, who, first, last in terms:
        if (name, who) == (group, person) and first <= number and (last is None or number <= last):
            return True
    return False


def people_of(terms):
    return sorted(set(term[1] for term in terms))


def groups_of(terms):
    return sorted(set(term[0] for term in terms))


def is_closed_way(terms, thing):
    """Whether thing is a CLOSED WAY, by the words of the document."""
    if type(thing) is not tuple or len(thing) % 2 or len(thing) < 4 or any(type(name) is not str for name in thing):
        return False
    stops, links = thing[0::2], thing[1::2]
    if len(set(stops)) < len(stops) or len(set(links)) < len(links):
        return False
    for at, group in enumerate(stops):
        comes = [first for name, who, first, _ in terms if (name, who) == (group, links[at - 1])]
        goes = [last for name, who, _, last in terms if (name, who) == (group, links[at])]
        if not any(last is None or first <= last for first in comes for last in goes):
            return False
    return True


def growing_ways(terms):
    """All ways along which people lead from groups to groups, nobody twice, those with fewer groups first."""
    table = {}
    for group, person, _, _ in terms:
        table.setdefault(group, set()).add(person)
    ways = [(group, name) for group in sorted(table) for name in sorted(table[group])]
    while ways:
        yield from ways
        ways = [
            way + (group, name)
            for way in ways for group in sorted(table) if group not in way[0::2] and way[-1] in table[group]
            for name in sorted(table[group]) if name not in way[1::2]
        ]


@functools.lru_cache(maxsize=None)
def closed_ways(terms):
    """ALL CLOSED WAYS, those with fewer groups first."""
    return [way for way in growing_ways(terms) if is_closed_way(terms, way)]


def sorted_terms(terms):
    return tuple(sorted(terms, key=lambda term: term[:3]))


@functools.lru_cache(maxsize=None)
def loops(terms):
    return any(is_closed_way(terms, way) for way in growing_ways(terms))


def letters_got(terms, person, counts):
    return [(group, number) for group, many in counts for number in range(1, many + 1) if gets(terms, person, group, number)]


def weeks_of(terms, counts):
    """All WEEKS with so many LETTERS of the groups."""
    rows = [[(name, row) for row in reading.rows_of(letters_got(terms, name, counts))] for name in people_of(terms)]
    return [tuple(week) for week in itertools.product(*rows)]


def many_weeks(terms, most):
    many = 1
    counts = [(group, most) for group in groups_of(terms)]
    for name in people_of(terms):
        letters = letters_got(terms, name, counts)
        if len(letters) > 7:
            return 10 ** 9
        many *= len(reading.rows_of(letters))
    return many


@functools.lru_cache(maxsize=None)
def all_weeks(terms, most):
    """All WEEKS in which no group has more than so many LETTERS."""
    groups = groups_of(terms)
    numbers = itertools.product(range(most + 1), repeat=len(groups))
    return sorted(set(week for some in numbers for week in weeks_of(terms, list(zip(groups, some)))))


def is_week(terms, thing):
    """Whether thing is a WEEK, by the words of the document."""
    if type(thing) is not tuple or any(type(pair) is not tuple or len(pair) != 2 for pair in thing):
        return False
    if [pair[0] for pair in thing] != people_of(terms):
        return False
    for _, row in thing:
        if type(row) is not tuple or not all(reading.is_letter(letter) for letter in row):
            return False
        if any(number > 60 for _, number in row) or any(group not in groups_of(terms) for group, _ in row):
            return False
    for group in groups_of(terms):
        own = {name: [number for other, number in row if other == group] for name, row in thing}
        # More LETTERS than the last one that somebody has need not be looked at: fewer are right then, too.
        most = max([0] + [number for numbers in own.values() for number in numbers])
        if not any(
            all(own[name] == [number for number in range(1, many + 1) if gets(terms, name, group, number)] for name in own)
            for many in range(most + 1)
        ):
            return False
    return True


def has_loop(week, unseen=()):
    """Whether unlike LETTERS go round, each ahead of the next one in some row or in the numbers of their group."""
    letters = sorted(set(letter for _, row in week for letter in row) | set(unseen))
    after = {letter: set(other for other in letters if other[0] == letter[0] and other[1] > letter[1]) for letter in letters}
    for _, row in week:
        for one, other in itertools.combinations(row, 2):
            after[one].add(other)
    for _ in after:
        for letter in after:
            after[letter] = after[letter].union(*[after[other] for other in after[letter]])
    return any(letter in after[letter] for letter in after)


def small():
    """Pairs (TERMS, m), first numbers of at most m, of which all WEEKS with at most m LETTERS of each group are listed."""
    for terms in TINY:
        most = max([first for _, _, first, _ in terms], default=1)
        if many_weeks(terms, most) <= 400:
            yield terms, most


class Plain(unittest.TestCase):
    """The plain readings, held against all rows of names, and enough of each kind drawn."""

    def test_growing_ways(self):
        for terms in SOME + TINY[::5]:
            groups, people = groups_of(terms), people_of(terms)
            every = []
            for many in range(2, min(len(groups), len(people)) + 1):
                for stops in itertools.permutations(groups, many):
                    for links in itertools.permutations(people, many):
                        way = tuple(name for pair in zip(stops, links) for name in pair)
                        every.extend([way] * is_closed_way(terms, way))
            self.assertEqual(sorted(every), sorted(closed_ways(terms)))
            self.assertIs(loops(terms), bool(every))

    def test_drawn_terms(self):
        for terms in SOME + MORE + TINY + EIGHT:
            self.assertTrue(is_terms(terms))
        self.assertGreater(len(list(small())), 200)
        self.assertGreater(len([terms for terms in SOME if len(terms_twice(terms)) > 0]), 50)


def terms_twice(terms):
    """The pairs of a group and a person with two TERMS or more."""
    ties = [term[:2] for term in terms]
    return set(tie for tie in ties if ties.count(tie) > 1)


class IsTerms(unittest.TestCase):
    def test_drawn_ones(self):
        for terms in SOME + MORE + TINY + EIGHT:
            self.assertIs(told.is_terms(terms), True)
            self.assertIs(told.is_terms(list(terms)), False)
            self.assertIs(told.is_terms(terms + terms[:1]), not terms)
            self.assertIs(told.is_terms(moved_up(terms, GREAT)), True)

    def test_bent_ones(self):
        draw = random.Random(230)
        count = {True: 0, False: 0}
        for terms in SOME + MORE[:20]:
            for thing in bent(draw, terms):
                right = is_terms(thing)
                count[right] += 1
                self.assertIs(told.is_terms(thing), right, thing)
        self.assertGreater(min(count.values()), 3000)

    def test_all_pairs_of_terms(self):
        every = [("g", who, first, last) for who in "ab" for first in (1, 2, 3) for last in (None, 1, 2, 3)]
        for one, other in itertools.product(every, repeat=2):
            self.assertIs(told.is_terms((one, other)), is_terms((one, other)), (one, other))

    def test_things_of_all_kinds(self):
        for thing in THINGS:
            for bent_thing in (thing, (thing,), (("g", "a", 1, thing),), (("g", "a", thing, None),), (("g", thing, 1, 2),),
                               ((thing, "a", 1, 2),), (("g", "a", 1, 2), thing), (("g", "a", 1, 2, thing),)):
                self.assertIs(told.is_terms(bent_thing), is_terms(bent_thing))
        self.assertIs(told.is_terms((("g", "a", 1, True),)), False)
        self.assertIs(told.is_terms((("g", "a", True, 1),)), False)
        self.assertIs(told.is_terms((("g", "a", 1, 1),)), True)
        self.assertIs(told.is_terms((("g", "a", 1, None), ("g", "a", 1, None))), False)
        self.assertIs(told.is_terms((("g", "a", 1, 1), ("g", "a", 1, None))), False)
        self.assertIs(told.is_terms((("g", "a", 1, None), ("g", "a", 2, 3))), False)

    def test_however_many(self):
        names = ["".join(signs) for signs in itertools.product("abcdefghij", repeat=3)]
        self.assertIs(told.is_terms(tuple((name, "a", 1, None) for name in names)), True)
        self.assertIs(told.is_terms(tuple(("g", name, 1, None) for name in names)), True)
        self.assertIs(told.is_terms(tuple(("g", "a", number, number) for number in range(1, 500))), True)
        self.assertIs(told.is_terms(tuple(("g", "a", number, number + 1) for number in range(1, 500))), False)


class Getting(unittest.TestCase):
    def test_getters(self):
        for terms in SOME + MORE:
            for group in groups_of(terms) + ["x", "", "a", "A b"]:
                for number in (-GREAT, -1, 0, 1, 2, 3, 4, 5, 6, 7, GREAT):
                    expected = tuple(name for name in people_of(terms) if gets(terms, name, group, number))
                    self.assertEqual(told.getters(terms, group, number), expected)

    def test_great_numbers(self):
        for terms in SOME:
            great = moved_up(terms, GREAT)
            for group in groups_of(terms):
                for number in range(8):
                    self.assertEqual(told.getters(great, group, GREAT + number), told.getters(terms, group, number))

    def test_terms_of(self):
        for terms in SOME + MORE:
            for person in people_of(terms) + ["x", "", "g"]:
                self.assertEqual(told.terms_of(terms, person), tuple(term for term in terms if term[1] == person))


class Ways(unittest.TestCase):
    def test_against_all_closed_ways(self):
        count = {2: 0, 3: 0, 4: 0, None: 0}
        for terms in SOME + MORE + TINY:
            every = closed_ways(terms)
            way = told.closed_way(terms)
            self.assertIs(told.can_loop(terms), bool(every))
            if every:
                self.assertIn(way, every)
                self.assertEqual(len(way), len(every[0]))
                for other in every[:30]:
                    self.assertIs(told.is_closed_way(terms, other), True)
                count[len(way) // 2] += 1
            else:
                self.assertIsNone(way)
                count[None] += 1
        self.assertGreater(count[None], 100)
        self.assertGreater(count[2], 100)
        self.assertGreater(count[3], 5)

    def test_all_rows_of_names(self):
        count = {True: 0, False: 0}
        draw = random.Random(231)
        for terms in SOME:
            names = groups_of(terms) + people_of(terms)
            for many in range(7):
                for _ in range(12):
                    way = tuple(draw.choice(names or "x") for _ in range(many))
                    count[is_closed_way(terms, way)] += 1
                    self.assertIs(told.is_closed_way(terms, way), is_closed_way(terms, way))
            for stops in itertools.permutations(groups_of(terms), 2):
                for links in itertools.permutations(people_of(terms), 2):
                    way = (stops[0], links[0], stops[1], links[1])
                    count[is_closed_way(terms, way)] += 1
                    self.assertIs(told.is_closed_way(terms, way), is_closed_way(terms, way))
        self.assertGreater(min(count.values()), 300)

    def test_which_way_about(self):
        only = 0
        for terms in SOME + MORE:
            for way in closed_ways(terms):
                turned = way[:1] + way[:0:-1]
                only += not is_closed_way(terms, turned)
                self.assertIs(told.is_closed_way(terms, turned), is_closed_way(terms, turned))
                self.assertIs(told.is_closed_way(terms, way[2:] + way[:2]), True)
        self.assertGreater(only, 100)

    def test_bent_ones(self):
        draw = random.Random(232)
        count = {True: 0, False: 0}
        for terms in SOME:
            for way in closed_ways(terms)[:2]:
                for thing in bent(draw, way):
                    right = is_closed_way(terms, thing)
                    count[right] += 1
                    self.assertIs(told.is_closed_way(terms, thing), right, thing)
        self.assertGreater(count[False], 3000)
        self.assertGreater(count[True], 50)

    def test_things_of_all_kinds(self):
        for thing in THINGS:
            for bent_thing in (thing, (thing,), ("g", "b", "h", thing), ("g", thing, "h", "a"), (thing, "b", "h", "a"),
                               ("g", "b", "h", "a", thing)):
                for terms in (TERMS, ()):
                    self.assertIs(told.is_closed_way(terms, bent_thing), is_closed_way(terms, bent_thing))

    def test_groups_and_people_of_the_same_names(self):
        terms = (("a", "a", 1, None), ("a", "b", 1, None), ("b", "a", 1, None), ("b", "b", 1, None))
        self.assertIs(told.is_closed_way(terms, ("a", "a", "b", "b")), True)
        self.assertIs(told.is_closed_way(terms, told.closed_way(terms)), True)
        self.assertIs(told.can_loop(terms[:3]), False)
        # The one CLOSED WAY has a person with the NAME of a group on it.
        terms = (("a", "a", 1, 4), ("a", "b", 5, None), ("b", "a", 1, None), ("b", "b", 1, None))
        self.assertEqual(closed_ways(terms), [("a", "b", "b", "a"), ("b", "a", "a", "b")])
        self.assertIn(told.closed_way(terms), closed_ways(terms))
        rest = (("b", "x", 1, None), ("b", "y", 1, None), ("c", "b", 1, None), ("c", "y", 1, None))
        for terms in ((("a", "b", 1, 4), ("a", "x", 5, None)) + rest, (("a", "b", 5, None), ("a", "x", 1, 4)) + rest):
            self.assertEqual(len(closed_ways(terms)), 3)
            self.assertIn(told.closed_way(terms), closed_ways(terms))

    def test_eight_groups_and_people(self):
        table = {(group, one): (1, None) for group, one in zip("abcdefgh", "pqrstuvw")}
        table.update({(group, one): (5, None) for group, one in zip("abcdefgh", "qrstuvwp")})
        # In a p is gone before q comes: so q cannot lead there for p to lead on. In b it is so with r and q.
        early, late = {("a", "p"): (1, 4)}, {("b", "r"): (1, 3), ("b", "q"): (4, None)}
        around, early, late, both = [
            tuple(sorted(tie + numbers for tie, numbers in {**table, **other}.items()))
            for other in ({}, early, late, {**early, **late})
        ]
        self.assertEqual([is_terms(terms) for terms in (around, early, late, both)], [True] * 4)
        self.assertEqual(len(told.closed_way(around)), 16)
        self.assertEqual([len(told.closed_way(terms)) for terms in (early, late)], [16, 16])
        self.assertEqual((told.can_loop(both), told.closed_way(both), told.looping_week(both)), (False, None, None))
        for terms in EIGHT:
            way = told.closed_way(terms)
            self.assertIs(told.can_loop(terms), way is not None)
            if way is not None:
                self.assertIs(is_closed_way(terms, way), True)
                self.assertIs(told.is_closed_way(terms, way), True)

    def test_fewest_groups_of_eight(self):
        some = 0
        for terms in EIGHT:
            first = next((way for way in growing_ways(terms) if is_closed_way(terms, way)), None)
            some += first is not None
            way = told.closed_way(terms)
            self.assertEqual(None if way is None else len(way), None if first is None else len(first))
        self.assertGreater(some, 10)

    def test_no_terms(self):
        self.assertEqual((told.can_loop(()), told.closed_way(()), told.looping_week(())), (False, None, None))
        self.assertEqual((told.is_week((), ()), told.has_loop((), ())), (True, False))


class Weeks(unittest.TestCase):
    def test_against_all_weeks(self):
        count = {True: 0, False: 0}
        for terms, most in small():
            every = all_weeks(terms, most)
            looping = [week for week in every if has_loop(week)]
            count[bool(looping)] += 1
            # Guarantee: exactly if there is a CLOSED WAY; first numbers of at most m need no more than m LETTERS.
            self.assertIs(told.can_loop(terms), bool(looping), terms)
            for week in every[::7] + looping[:10]:
                self.assertIs(told.is_week(terms, week), True)
                self.assertIs(told.has_loop(terms, week), has_loop(week))
            week = told.looping_week(terms)
            if looping:
                self.assertIn(week, looping)
            else:
                self.assertIsNone(week)
        self.assertGreater(min(count.values()), 60)

    def test_weeks_with_more_letters(self):
        for terms, most in list(small())[::4]:
            if many_weeks(terms, most + 2) <= 400:
                looping = any(has_loop(week) for week in all_weeks(terms, most + 2))
                self.assertIs(told.can_loop(terms), looping)

    def test_letters_that_nobody_gets(self):
        some = 0
        for terms, most in list(small())[::3]:
            for week in all_weeks(terms, most)[::5]:
                unseen = [(group, number) for group in groups_of(terms) for number in range(1, most + 1)]
                some += len(unseen) > len(set(letter for _, row in week for letter in row))
                self.assertIs(told.has_loop(terms, week), has_loop(week, unseen))
        self.assertGreater(some, 100)
        terms = (("g", "a", 1, 1), ("g", "b", 9, None), ("h", "a", 1, None), ("h", "b", 1, None))
        week = (("a", (("h", 1), ("g", 1))), ("b", (("g", 9), ("h", 1))))
        self.assertEqual((told.is_week(terms, week), told.has_loop(terms, week)), (True, True))

    def test_is_week_among_rows(self):
        draw = random.Random(233)
        count = {True: 0, False: 0}
        for terms, most in small():
            every = set(all_weeks(terms, most))
            groups = groups_of(terms)
            for _ in range(6):
                thing = tuple(
                    (name, drawn_row(draw, tuple(
                        (group, number) for group in groups for number in range(1, most + 1)
                        if gets(terms, name, group, number) != (draw.random() < 0.2)
                    )))
                    for name in people_of(terms)
                )
                right = is_week(terms, thing)
                count[right] += 1
                self.assertIs(right, thing in every)
                self.assertIs(told.is_week(terms, thing), right, (terms, thing))
        self.assertGreater(min(count.values()), 150)

    def test_bent_ones(self):
        draw = random.Random(234)
        count = {True: 0, False: 0}
        for terms, most in list(small())[::6]:
            for week in draw.sample(all_weeks(terms, most), 1):
                for thing in bent(draw, week):
                    right = is_week(terms, thing)
                    count[right] += 1
                    self.assertIs(told.is_week(terms, thing), right, thing)
        self.assertGreater(count[False], 3000)
        self.assertGreater(count[True], 20)

    def test_things_of_all_kinds(self):
        week = (("a", (("h", 1), ("g", 1), ("g", 2), ("g", 3))), ("b", (("g", 5), ("h", 1))))
        self.assertIs(is_week(TERMS, week), True)
        for thing in THINGS:
            for bent_thing in (thing, (thing,), (week[0], thing), (week[0], ("b", thing)), (week[0], (thing, week[1][1])),
                               (week[0], ("b", (("g", 5), thing))), (week[0], ("b", (("g", thing), ("h", 1)))),
                               (week[0], ("b", (("g", 5), (thing, 1)))), week + (thing,)):
                for terms in (TERMS, (), TERMS[:1]):
                    self.assertIs(told.is_week(terms, bent_thing), is_week(terms, bent_thing))
        self.assertIs(told.is_week((("g", "a", 1, None),), (("a", (("g", True),)),)), False)
        self.assertIs(told.is_week((("g", "a", 1, None),), (("a", (("g", 1),)),)), True)

    def test_great_numbers(self):
        terms = (("g", "a", 1, 3), ("g", "b", GREAT, None), ("h", "b", 1, None))
        a = ("a", (("g", 1), ("g", 2), ("g", 3)))
        row = (("g", GREAT), ("h", 1), ("g", GREAT + 1))
        self.assertIs(told.is_week(terms, (a, ("b", row))), True)
        self.assertIs(told.is_week(terms, (("a", ()), ("b", row))), False)
        self.assertIs(told.is_week(terms, (("a", ()), ("b", row[1:2]))), True)
        self.assertIs(told.is_week(terms, (a, ("b", row[1:]))), False)
        self.assertIs(told.is_week(terms, (a, ("b", row[::-1]))), False)
        self.assertIs(told.has_loop(terms, (a, ("b", row))), False)

    def test_one_number_for_all(self):
        terms = (("g", "a", 1, None), ("g", "b", 2, 3), ("g", "c", 5, None))
        for counts in itertools.product(range(7), range(3), range(3)):
            rows = ([1, 2, 3, 4, 5, 6][:counts[0]], [2, 3][:counts[1]], [5, 6][:counts[2]])
            week = tuple((name, tuple(("g", number) for number in numbers)) for name, numbers in zip("abc", rows))
            self.assertIs(told.is_week(terms, week), is_week(terms, week))

    def test_looping_week(self):
        some = 0
        for terms in [terms for terms in SOME + MORE + EIGHT if all(term[2] <= 4 for term in terms)]:
            week = told.looping_week(terms)
            if not told.can_loop(terms):
                self.assertIsNone(week)
                continue
            some += 1
            self.assertIs(is_week(terms, week), True)
            self.assertIs(has_loop(week), True)
            self.assertLessEqual(max(number for _, row in week for _, number in row), 4)
            self.assertEqual((told.is_week(terms, week), told.has_loop(terms, week)), (True, True))
        self.assertGreater(some, 60)
        # All of a group came ahead of the fourth LETTER of another one, and last numbers are great.
        terms = tuple(sorted([(group, name, 4, GREAT) for group, name in itertools.product("gh", "ab")]))
        week = told.looping_week(terms)
        self.assertEqual((is_week(terms, week), has_loop(week)), (True, True))

    def test_24_letters(self):
        draw = random.Random(235)
        count = {True: 0, False: 0}
        for terms in EIGHT * 3:
            groups = groups_of(terms)
            if not groups:
                continue
            counts = {group: 0 for group in groups}
            for _ in range(24):
                counts[draw.choice(groups)] += 1
            base = drawn_row(draw, tuple((group, number) for group in groups for number in range(1, counts[group] + 1)))
            wild = draw.random() < 0.4
            week = tuple(
                (name, tuple(letter for letter in (drawn_row(draw, base) if wild else base) if gets(terms, name, *letter)))
                for name in people_of(terms)
            )
            self.assertIs(told.is_week(terms, week), True)
            count[has_loop(week)] += 1
            self.assertIs(told.has_loop(terms, week), has_loop(week))
        self.assertGreater(min(count.values()), 10)


class Numbers(Refusing):
    def lasts(self, terms, place):
        """The last numbers to 12 with which no WEEK has a LOOP."""
        group, person, first, _ = terms[place]
        changed = [terms[:place] + ((group, person, first, last),) + terms[place + 1:] for last in range(first, 13)]
        return [new[place][3] for new in changed if is_terms(new) and not loops(new)]

    def firsts(self, terms, place):
        group, person, _, last = terms[place]
        changed = [terms[:place] + ((group, person, first, last),) + terms[place + 1:] for first in range(1, 13)]
        return [new[place][2] for new in changed if is_terms(new) and not loops(new)]

    def test_latest_last(self):
        count = {None: 0, "CanNot": 0, "number": 0}
        for terms in SOME + MORE[:60]:
            for place in range(len(terms)):
                right = self.lasts(terms, place)
                if not right:
                    count["CanNot"] += 1
                    self.refused(CanNot, {}, told.latest_last, terms, place)
                else:
                    # All first numbers are at most 6: so 12 stands for all numbers above.
                    expected = None if right[-1] == 12 else right[-1]
                    count[expected and "number"] += 1
                    self.assertEqual(told.latest_last(terms, place), expected, (terms, place))
        self.assertGreater(min(count.values()), 50)

    def test_earliest_first(self):
        count = {1: 0, "CanNot": 0, "number": 0}
        for terms in SOME + MORE[:60]:
            for place in range(len(terms)):
                right = self.firsts(terms, place)
                if not right:
                    count["CanNot"] += 1
                    self.refused(CanNot, {}, told.earliest_first, terms, place)
                else:
                    count[1 if right[0] == 1 else "number"] += 1
                    self.assertEqual(told.earliest_first(terms, place), right[0], (terms, place))
        self.assertGreater(min(count.values()), 50)

    def test_great_numbers(self):
        for terms in SOME[::3]:
            great = moved_up(terms, GREAT)
            for place in range(len(terms)):
                for call in (told.latest_last, told.earliest_first):
                    left = reading.outcome(call, terms, place)
                    if left.startswith("returns ") and left not in ("returns None", "returns 1"):
                        left = f"returns {int(left[8:]) + GREAT}"
                    elif left == "returns 1" and call is told.latest_last:
                        left = f"returns {1 + GREAT}"
                    self.assertEqual(reading.outcome(call, great, place), left)

    def test_no_term(self):
        for terms in SOME[::5]:
            for place in (-1, -2, -len(terms), -GREAT, len(terms), len(terms) + 1, GREAT):
                if place or not terms:
                    for call in (told.latest_last, told.earliest_first):
                        self.refused(NoTerm, {"place": place}, call, terms, place)
        # With a LOOP, too: the place is looked at first.
        self.refused(NoTerm, {"place": 4}, told.earliest_first, TERMS, 4)
        self.refused(CanNot, {}, told.earliest_first, TERMS, 0)

    def test_other_terms_of_the_person(self):
        terms = (("g", "a", 2, 3), ("g", "a", 6, 7), ("g", "a", 9, None))
        self.assertEqual([told.latest_last(terms, place) for place in range(3)], [5, 8, None])
        self.assertEqual([told.earliest_first(terms, place) for place in range(3)], [1, 4, 8])
        self.assertEqual(told.latest_last((("g", "a", 1, 1), ("g", "b", 2, 2)), 0), None)

    def test_earliest_join(self):
        count = {None: 0, 1: 0, "number": 0, "Unfit": 0}
        for terms in SOME + MORE[:60]:
            for group, person in itertools.product(groups_of(terms) + ["x"], people_of(terms) + ["y"]):
                if any(term[:2] == (group, person) for term in terms):
                    count["Unfit"] += 1
                    self.refused(Unfit, {}, told.earliest_join, terms, group, person)
                    continue
                right = [first for first in range(1, 13) if not loops(sorted_terms(terms + ((group, person, first, None),)))]
                expected = right[0] if right else None
                count[expected if expected in (None, 1) else "number"] += 1
                self.assertEqual(told.earliest_join(terms, group, person), expected, (terms, group, person))
        self.assertGreater(min(count.values()), 10)
        self.assertEqual(told.earliest_join((), "g", "a"), 1)
        self.assertEqual(told.earliest_join(moved_up(MOVED[:3], GREAT), "h", "b"), GREAT + 3)

    def test_may_swap(self):
        count = {True: 0, False: 0}
        for terms in SOME + MORE[:60]:
            for group in groups_of(terms)[:2] + ["x"]:
                for one, other in itertools.permutations(people_of(terms)[:3] + ["y"], 2):
                    for number in (1, 2, 3, 5, 7):
                        left = [term for term in terms if term[0] != group or term[1] not in (one, other)]
                        left += [(group, other, number, None)] + [(group, one, 1, number - 1)][:number - 1]
                        self.assertIs(is_terms(sorted_terms(left)), True)
                        right = not loops(sorted_terms(left))
                        count[right] += 1
                        self.assertIs(told.may_swap(terms, group, one, other, number), right)
        self.assertGreater(min(count.values()), 300)

    def test_may_swap_great_numbers(self):
        for number in (1, 2, 3, 4, 5, 6):
            right = told.may_swap(TERMS, "h", "a", "b", number)
            self.assertIs(told.may_swap(moved_up(TERMS, GREAT), "h", "a", "b", number + GREAT), right)
        self.assertIs(told.may_swap((), "g", "a", "b", GREAT), True)

    def test_may_swap_from_the_first_letter_on(self):
        """One gets the first LETTER of the group, too, and c just this one."""
        terms = (("g", "c", 1, 1), ("h", "a", 5, None), ("h", "c", 1, 4))
        self.assertEqual([told.may_swap(terms, "g", "a", "b", number) for number in (1, 2, 5)], [True, False, False])
        self.assertEqual([told.may_swap(terms, "g", "b", "a", number) for number in (1, 2, 5)], [False, True, True])

    def test_eight_groups_and_people(self):
        for terms in EIGHT:
            for place in range(0, len(terms), 4):
                for call in (told.latest_last, told.earliest_first):
                    left = reading.outcome(call, terms, place)
                    self.assertTrue(left.startswith(("returns ", "raises orderrings.errors.CanNot")))
            self.assertIn(told.earliest_join(terms, "zz", NAMES[0]), (None, 1))


if __name__ == "__main__":
    unittest.main()
