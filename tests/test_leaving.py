"""[10]: memberships that end, against all sets of memberships, of groups and of people of small books."""

import functools
import itertools
import random
import unittest

import reading
from checking import Refusing
from drawing import APART, BOW, CHAIN, CIRCLE, FULL, KNOT, NAMES, RING, ROW, SAME, SQUARE, TOLD_BOOKS
from drawing import circle_books, drawn_book, drawn_books, thick_books, thin_books
from orderrings import leaving
from orderrings.errors import NoGroup, NoPerson, Unfit

BOOKS = tuple(
    book for book in drawn_books(121, 60) + thick_books(122, 70) + thin_books(123, 40) + circle_books(124, 30)
    if len(reading.ties(book)) < 10 and len(reading.crowd(book)) < 7
)
# Of these all sets of MEMBERSHIPS are handed in.
SMALL_BOOKS = tuple(book for book in BOOKS + drawn_books(125, 60, 3, 3) if len(reading.ties(book)) < 7)
TWELVE = (
    tuple((group, tuple("pqrs")) for group in "abc"), tuple((group, tuple("pqr")) for group in "abcd"),
    tuple((group, tuple("pqrstu")) for group in "ab"), tuple((group, ("p", "q")) for group in "abcdef"),
) + tuple(book for book in circle_books(126, 60) if len(reading.ties(book)) in (11, 12))[:6]
GREAT_BOOKS = (FULL, APART, CIRCLE, CHAIN) + tuple(drawn_book(random.Random(seed), 8, 8) for seed in range(1260, 1290))
GREAT = 10 ** 30


@functools.lru_cache(maxsize=None)
def plain_rounds(book):
    return [(way, reading.on_round(way)) for way in reading.rounds(book)]


def rounds_left(book, ends):
    """The ROUNDS of the BOOK without these MEMBERSHIPS."""
    return [way for way, ties in plain_rounds(book) if not ties & set(ends)]


@functools.lru_cache(maxsize=None)
def mending(book):
    """All sets of MEMBERSHIPS that mend the BOOK, those with fewer first, of those with as many the lesser ones first."""
    return [ends for ends in reading.subsets(reading.ties(book)) if not rounds_left(book, ends)]


def is_fit(book, ends):
    table = reading.unordered(book)
    ties = reading.ties(book)
    for group, person in ends:
        if (group, person) not in ties:
            return False
        table[group].discard(person)
    return all(table.values())


def kept(book, ends):
    return tuple((group, tuple(name for name in members if (group, name) not in ends)) for group, members in book)


def forests(book):
    """How many sets of as many MEMBERSHIPS as can be are without a ROUND: counted by taking one away, or making its ends one."""
    edges = tuple(("g" + group, "p" + person) for group, person in reading.ties(book))
    return many_forests(edges)


@functools.lru_cache(maxsize=None)
def many_forests(edges):
    edges = tuple(edge for edge in edges if edge[0] != edge[1])
    if not edges:
        return 1
    (one, other), rest = edges[0], edges[1:]
    joined = tuple(tuple(sorted(other if node == one else node for node in edge)) for edge in rest)
    reached = {one}
    for _ in rest:
        reached |= {node for edge in rest if set(edge) & reached for node in edge}
    return many_forests(tuple(sorted(joined))) + (many_forests(rest) if other in reached else 0)


def strange_ends(draw, book):
    """Sets of pairs, mostly MEMBERSHIPS."""
    ties = reading.ties(book)
    strange = [(group, person) for group in NAMES + ("nobody",) for person in NAMES + ("",)]
    for _ in range(6):
        some = draw.sample(ties, draw.randint(0, min(4, len(ties)))) + draw.sample(strange, draw.choice((0, 0, 1, 2)))
        yield tuple(sorted(set(some)))


class Plain(unittest.TestCase):
    def test_enough_of_each_kind_is_drawn(self):
        few = [len(mending(book)[0]) for book in BOOKS]
        for size, least in ((0, 40), (1, 30), (2, 15), (3, 5)):
            self.assertGreater(few.count(size), least)
        self.assertGreater(len(SMALL_BOOKS), 60)
        self.assertGreater(len(TWELVE), 6)


class Ends(Refusing):
    def each(self):
        draw = random.Random(127)
        for book in SMALL_BOOKS:
            for ends in reading.subsets(reading.ties(book)):
                yield book, ends
        for book in BOOKS + TOLD_BOOKS + GREAT_BOOKS:
            for ends in strange_ends(draw, book):
                yield book, ends

    def test_unfit(self):
        told = {True: 0, False: 0}
        for book, ends in self.each():
            fit = is_fit(book, ends)
            told[fit] += 1
            if not fit:
                for call in (leaving.kept, leaving.is_mended, leaving.more_ends, leaving.spare_ends):
                    self.refused(Unfit, {}, call, book, ends)
        self.assertGreater(min(told.values()), 300)

    def test_kept(self):
        for book, ends in self.each():
            if is_fit(book, ends):
                self.assertEqual(leaving.kept(book, ends), kept(book, ends))
        for book in BOOKS + GREAT_BOOKS:
            self.assertEqual(leaving.kept(book, ()), book)

    def test_is_mended(self):
        told = {True: 0, False: 0}
        for book, ends in self.each():
            if is_fit(book, ends) and book not in GREAT_BOOKS:
                right = not rounds_left(book, ends)
                told[right] += 1
                self.assertIs(leaving.is_mended(book, ends), right)
        self.assertGreater(min(told.values()), 100)

    def test_more_ends(self):
        for book, ends in self.each():
            if is_fit(book, ends) and book not in GREAT_BOOKS and book in BOOKS:
                rest = [tie for tie in reading.ties(book) if tie not in ends]
                least = next(more for more in reading.subsets(rest) if not rounds_left(book, ends + more))
                self.assertEqual(leaving.more_ends(book, ends), least)

    def test_spare_ends(self):
        some = 0
        for book, ends in self.each():
            if is_fit(book, ends) and book not in GREAT_BOOKS:
                found = []
                for end in ends:
                    left = rounds_left(book, [other for other in ends if other != end])
                    if not any(end in reading.on_round(way) for way in left):
                        found.append(end)
                some += 0 < len(found) < len(ends)
                self.assertEqual(leaving.spare_ends(book, ends), tuple(found))
        self.assertGreater(some, 30)

    def test_members_of_another_group_or_none(self):
        for ends in ((("a", "q"),), (("a", "p"), ("b", "z")), (("p", "a"),), (("x", "p"),), (("a", "p"), ("a", "r")), (("", ""),)):
            for call in (leaving.kept, leaving.is_mended, leaving.more_ends, leaving.spare_ends):
                self.refused(Unfit, {}, call, RING, ends)

    def test_people_who_leave_all_groups(self):
        ends = (("a", "p"), ("b", "p"))
        self.assertEqual(leaving.kept(RING, ends), (("a", ("r",)), ("b", ("q",)), ("c", ("q", "r"))))
        self.assertEqual(leaving.spare_ends(RING, ends), ends)
        self.assertEqual(leaving.more_ends(RING, ends), ())
        self.assertIs(leaving.is_mended(RING, ends), True)

    def test_great_books(self):
        diagonal = tuple((group, person) for group, person in zip("abcdefgh", "pqrstuvw"))
        self.assertIs(leaving.is_mended(FULL, diagonal), False)
        self.assertEqual(len(leaving.more_ends(FULL, diagonal)), 41)
        # A chain through all groups and people is left.
        chain = tuple(sorted(diagonal + tuple(zip("bcdefgh", "pqrstuv"))))
        ends = tuple(tie for tie in sorted(reading.ties(FULL)) if tie not in chain)
        self.assertIs(leaving.is_mended(FULL, ends), True)
        self.assertEqual(leaving.spare_ends(FULL, ends), ())
        self.assertEqual(leaving.more_ends(FULL, ends), ())
        # Given back, q is in a, too: a p b q is a ROUND.
        self.assertEqual(leaving.more_ends(FULL, ends[1:]), (("a", "p"),))
        self.assertEqual(leaving.more_ends(FULL, ends[:-1]), (("g", "u"),))
        parted = tuple(sorted(ends + (("d", "s"),)))
        self.assertEqual(leaving.spare_ends(FULL, parted), tuple(tie for tie in parted if (tie[0] in "abcd") != (tie[1] in "pqr")))
        self.refused(Unfit, {}, leaving.kept, FULL, tuple(("a", person) for person in "pqrstuvw"))
        self.assertEqual(leaving.spare_ends(CIRCLE, (("a", "p"), ("d", "t"))), (("a", "p"), ("d", "t")))


class Fewest(unittest.TestCase):
    def test_against_all_sets(self):
        for book in BOOKS + TOLD_BOOKS:
            sets = mending(book)
            few = [ends for ends in sets if len(ends) == len(sets[0])]
            self.assertEqual(leaving.fewest_ends(book), len(sets[0]))
            self.assertEqual(leaving.least_ends(book), sets[0])
            self.assertEqual(leaving.ways_to_end(book), len(few))

    def test_guarantees(self):
        for book in BOOKS + TOLD_BOOKS:
            sets = [ends for ends in mending(book) if len(ends) == len(mending(book)[0])]
            self.assertTrue(all(is_fit(book, ends) for ends in sets))
            self.assertTrue(all(reading.crowd(kept(book, ends)) == reading.crowd(book) for ends in sets))
            on = set().union(*[ties for _, ties in plain_rounds(book)])
            for tie in reading.ties(book):
                self.assertIs(any(tie in ends for ends in sets), tie in on)
                self.assertIs(any(tie not in ends for ends in sets), True)
        for book in BOOKS + GREAT_BOOKS:
            many = len(reading.ties(book)) - len(book) - len(reading.crowd(book)) + len(reading.parts(book))
            self.assertEqual(leaving.fewest_ends(book), many)
            least = leaving.least_ends(book)
            self.assertEqual(len(least), many)
            self.assertIs(leaving.is_mended(book, least), True)

    def test_least_of_great_books(self):
        for book in GREAT_BOOKS:
            least, ties = leaving.least_ends(book), sorted(reading.ties(book))
            # A lesser one would have an earlier MEMBERSHIP in the place of one of these and those behind it.
            for at, tie in enumerate(least):
                for other in ties[:ties.index(tie)]:
                    if other not in least[:at]:
                        left = kept(book, least[:at] + (other,))
                        parts = len(reading.parts(tuple(entry for entry in left if entry[1])))
                        fewer = len(reading.ties(left)) - len([1 for entry in left if entry[1]]) - len(reading.crowd(left)) + parts
                        self.assertGreater(at + 1 + fewer, len(least))

    def test_ways_to_end_of_great_books(self):
        self.assertEqual(leaving.ways_to_end(FULL), 8 ** 14)
        self.assertEqual(leaving.fewest_ends(FULL), 49)
        self.assertEqual(leaving.ways_to_end(CIRCLE), 16)
        self.assertEqual(leaving.least_ends(CIRCLE), (("a", "p"),))
        for book in (APART, CHAIN):
            self.assertEqual(leaving.ways_to_end(book), 1)
            self.assertEqual(leaving.least_ends(book), ())
        self.assertEqual(leaving.ways_to_end(BOW), 16)
        self.assertEqual(leaving.ways_to_end(KNOT), 16)
        self.assertEqual(leaving.ways_to_end(TWELVE[0]), 3 ** 3 * 4 ** 2)
        for book in TWELVE + tuple(book for book in GREAT_BOOKS if len(reading.ties(book)) < 17):
            self.assertEqual(leaving.ways_to_end(book), forests(book))


class Cheapest(unittest.TestCase):
    def cheapest(self, book, prices):
        price = dict(zip(sorted(reading.ties(book)), prices))
        return min(mending(book), key=lambda ends: (sum(price[end] for end in ends), len(ends), ends))

    def test_against_all_sets(self):
        draw = random.Random(128)
        for book in BOOKS + TOLD_BOOKS:
            many = len(reading.ties(book))
            for pool in ((0, 1), (0,), (7,), (0, 1, 2, 3), tuple(range(50)), (GREAT, GREAT - 1, 1, 0), (10 ** 30 - 5, 10 ** 29)):
                prices = tuple(draw.choice(pool) for _ in range(many))
                self.assertEqual(leaving.cheapest_ends(book, prices), self.cheapest(book, prices), (book, prices))

    def test_equal_prices_are_least_ends(self):
        for book in BOOKS + GREAT_BOOKS:
            for price in (0, 1, GREAT):
                prices = (price,) * len(reading.ties(book))
                self.assertEqual(leaving.cheapest_ends(book, prices), leaving.least_ends(book))

    def test_great_books(self):
        draw = random.Random(129)
        for book in GREAT_BOOKS:
            ties = sorted(reading.ties(book))
            prices = tuple(draw.choice((0, 1, 2, 3, GREAT)) for _ in ties)
            price = dict(zip(ties, prices))
            ends = leaving.cheapest_ends(book, prices)
            self.assertEqual(len(ends), leaving.fewest_ends(book))
            self.assertIs(leaving.is_mended(book, ends), True)
            # No exchange of two leaves a better one: such sets are the cheapest ones.
            for end, other in itertools.product(ends, ties):
                if other not in ends:
                    new = tuple(sorted([tie for tie in ends if tie != end] + [other]))
                    if is_fit(book, new) and leaving.is_mended(book, new):
                        self.assertLess((price[end], ends), (price[other], new))
        self.assertEqual(leaving.cheapest_ends(CIRCLE, (3, 2, 3, 3, 1, 4, 5, 9, 2, 6, 1, 3, 5, 8, 9, 7)), (("c", "r"),))


class Joining(Refusing):
    def joins(self, book, group, person):
        """Whether the MEMBERSHIP is on no ROUND of the BOOK that has it."""
        table = reading.unordered(book)
        table[group].add(person)
        return not any((group, person) in ties for _, ties in plain_rounds(reading.as_book(table)))

    def test_can_join(self):
        told = {True: 0, False: 0}
        for book in BOOKS + TOLD_BOOKS:
            calm = []
            for group, person in itertools.product(sorted(reading.unordered(book)), reading.crowd(book)):
                right = self.joins(book, group, person)
                told[right] += 1
                self.assertIs(leaving.can_join(book, group, person), right)
                if right and (group, person) not in reading.ties(book):
                    calm.append((group, person))
            self.assertEqual(leaving.calm_joins(book), tuple(calm))
        self.assertGreater(min(told.values()), 300)

    def test_great_books(self):
        pairs = tuple(itertools.product("abcdefgh", "pqrstuvw"))
        self.assertEqual(leaving.calm_joins(APART), tuple(pair for pair in pairs if pair not in reading.ties(APART)))
        for book in (FULL, CIRCLE, CHAIN):
            self.assertEqual(leaving.calm_joins(book), ())
        self.assertIs(leaving.can_join(CHAIN, "a", "w"), False)
        self.assertIs(leaving.can_join(CHAIN, "a", "p"), True)
        self.assertIs(leaving.can_join(FULL, "a", "p"), False)
        for book in GREAT_BOOKS:
            for part in reading.parts(book):
                near = set(person for group, members in book if group in part for person in members)
                for group, person in itertools.product(part, reading.crowd(book)):
                    self.assertIs((group, person) in leaving.calm_joins(book), person not in near)

    def test_no_group_then_nobody(self):
        self.refused(NoGroup, {"group": "x"}, leaving.can_join, ROW, "x", "z")
        self.refused(NoGroup, {"group": "p"}, leaving.can_join, ROW, "p", "p")
        self.refused(NoPerson, {"person": "z"}, leaving.can_join, ROW, "a", "z")
        self.refused(NoPerson, {"person": "a"}, leaving.can_join, ROW, "a", "a")
        for book in BOOKS[:40]:
            for group, person in itertools.product(NAMES + ("",), NAMES + ("",)):
                if group not in reading.unordered(book):
                    self.refused(NoGroup, {"group": group}, leaving.can_join, book, group, person)
                elif person not in reading.crowd(book):
                    self.refused(NoPerson, {"person": person}, leaving.can_join, book, group, person)


class Closed(unittest.TestCase):
    def test_against_all_sets(self):
        for book in BOOKS + TOLD_BOOKS:
            ways = reading.rounds(book)
            names, crowd = sorted(reading.unordered(book)), reading.crowd(book)
            closed = [some for some in reading.subsets(names) if all(set(way[0::2]) & set(some) for way in ways)]
            self.assertEqual(leaving.least_closed(book), [some for some in closed if len(some) < len(book)][0])
            gone = [some for some in reading.subsets(crowd) if all(set(way[1::2]) & set(some) for way in ways)]
            self.assertEqual(leaving.least_gone(book), gone[0])

    def test_great_books(self):
        self.assertEqual(leaving.least_closed(FULL), tuple("abcdefg"))
        self.assertEqual(leaving.least_gone(FULL), tuple("pqrstuv"))
        self.assertEqual(leaving.least_closed(CIRCLE), ("a",))
        self.assertEqual(leaving.least_gone(CIRCLE), ("p",))
        for book in (APART, CHAIN):
            self.assertEqual(leaving.least_closed(book), ())
            self.assertEqual(leaving.least_gone(book), ())
        self.assertEqual(leaving.least_closed(BOW), ("a", "c"))
        self.assertEqual(leaving.least_gone(BOW), ("q",))
        self.assertEqual(leaving.least_closed(KNOT), ("b",))
        self.assertEqual(leaving.least_gone(KNOT), ("p", "r"))

    def test_names_of_groups_and_people_alike(self):
        self.assertEqual(leaving.least_closed(SAME), ("a",))
        self.assertEqual(leaving.least_gone(SAME), ("a",))
        self.assertEqual(leaving.least_ends(SAME), (("a", "a"),))
        self.assertEqual(leaving.calm_joins(SAME), ())
        self.assertEqual(leaving.least_closed((("a", ("a",)),)), ())


class Beside(unittest.TestCase):
    def pair_ends(self, book):
        for ends in reading.subsets(reading.ties(book)):
            left = [set(members) for _, members in kept(book, ends)]
            if all(len(one & other) < 2 for one, other in itertools.combinations(left, 2)):
                return ends

    def ends_beside(self, book, sets):
        for ends in reading.subsets(reading.ties(book)):
            if all(any(set(way[0::2]) <= set(some) for some in sets) for way in rounds_left(book, ends)):
                return ends

    def test_least_pair_ends(self):
        sizes = []
        for book in BOOKS + TOLD_BOOKS + TWELVE:
            least = self.pair_ends(book)
            sizes.append(len(least))
            self.assertEqual(leaving.least_pair_ends(book), least)
        for size, least in ((0, 60), (1, 30), (2, 10), (3, 1)):
            self.assertGreater(sizes.count(size), least)

    def test_least_ends_beside(self):
        draw = random.Random(130)
        for book in BOOKS + TOLD_BOOKS + TWELVE:
            every = reading.partings([group for group, _ in book])
            for sets in draw.sample(every, min(3, len(every))) + [every[0], every[-1]]:
                self.assertEqual(leaving.least_ends_beside(book, sets), self.ends_beside(book, sets), (book, sets))

    def test_all_classes(self):
        for book in TOLD_BOOKS + BOOKS[:30]:
            for sets in reading.partings([group for group, _ in book]):
                self.assertEqual(leaving.least_ends_beside(book, sets), self.ends_beside(book, sets))

    def test_lone_classes_and_one(self):
        for book in BOOKS + TWELVE:
            names = tuple(group for group, _ in book)
            self.assertEqual(leaving.least_ends_beside(book, (names,)), ())
            self.assertEqual(leaving.least_ends_beside(book, tuple((name,) for name in names)), leaving.least_ends(book))

    def test_told_ones(self):
        book = (("a", ("p", "q")), ("b", ("p", "q", "r")), ("c", ("p", "r")), ("d", ("p", "r")))
        self.assertEqual(leaving.least_pair_ends(book), self.pair_ends(book))
        # The least set has a MEMBERSHIP of b, though the ROUNDS with c and d alone are to be broken.
        self.assertEqual(leaving.least_ends_beside(book, (("a", "b"), ("c",), ("d",))), (("b", "r"), ("c", "p")))
        self.assertEqual(leaving.least_ends_beside(SQUARE, (("a", "b", "c"), ("d", "e"))), (("a", "s"),))


if __name__ == "__main__":
    unittest.main()
