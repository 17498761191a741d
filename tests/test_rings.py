"""[7]: rings of some run, against all runs of small books and all circles and sets of groups."""

import functools
import itertools
import random
import unittest

import reading
from checking import Refusing
from drawing import APART, BOW, CHAIN, CIRCLE, FULL, KNOT, RING, ROW, SAME, SQUARE, THINGS, TOLD_BOOKS
from drawing import all_letters, bent, circle_books, drawn_book, drawn_books, drawn_run, small_numbers, thick_books
from drawing import thin_books
from orderrings import rings
from orderrings.errors import NoGroup

BOOKS = drawn_books(61, 60) + thick_books(62, 25) + thin_books(63, 40) + circle_books(71, 50)
# Of these all RUNS with one LETTER of each group are listed.
SMALL_BOOKS = tuple(
    book for book in BOOKS + drawn_books(64, 60, 3, 4) + thin_books(65, 40) + circle_books(72, 40, 4)
    if reading.many_runs(book, (1,) * len(book)) <= 260
)
GREAT_BOOKS = (FULL, APART, CIRCLE, CHAIN) + tuple(
    drawn_book(random.Random(seed), 8, 8) for seed in range(660, 690)
)
# Two parts with a ROUND each, and a third one; their groups stand by turns.
PARTS = (("a", ("p", "q", "r")), ("b", ("u", "v")), ("c", ("p", "q")), ("d", ("u", "v")), ("e", ("r",)), ("f", ("w",)))
CHORD = (("a", ("p", "s")), ("b", ("p", "q", "x")), ("c", ("q", "r")), ("d", ("r", "s", "x")))
THREE = (("a", ("p", "r", "x")), ("b", ("p", "q", "x")), ("c", ("q", "r", "x")))
GREAT = 10 ** 30


def names_of(book):
    return [group for group, _ in book]


def groups_of(ring):
    return tuple(sorted(group for group, _ in ring))


@functools.lru_cache(maxsize=None)
def plain_rounds(book):
    return reading.rounds(book)


@functools.lru_cache(maxsize=None)
def seen_in_runs(book, numbers):
    """What ALL RUNS with so many LETTERS show: groups of RINGS, of tight RINGS, and pairs that people disagree about."""
    of_rings, of_tight, apart = set(), set(), set()
    for run in reading.runs(book, numbers):
        every = reading.rings(run)
        for ring in every:
            of_rings.add(tuple(sorted(set(groups_of(ring)))))
            if reading.is_tight(every, ring):
                of_tight.add(groups_of(ring))
            if len(ring) == 2:
                apart.add(groups_of(ring))
    return of_rings, of_tight, apart


def circles(book):
    """The sets of groups that can be put into a circle as the guarantees say."""
    table = reading.unordered(book)
    shared = {(one, other): len(table[one] & table[other]) for one in table for other in table}
    found = set(pair for pair in itertools.combinations(sorted(table), 2) if shared[pair] > 1)
    rows = [(group,) for group in table]
    while rows:
        # No group but the last one, and the first one where the circle closes, has anybody in common with the next one.
        rows = [
            row + (group,)
            for row in rows
            for group in table
            if group > row[0] and group not in row and shared[row[-1], group]
            and not any(shared[other, group] for other in row[1:-1])
        ]
        for row in rows:
            if len(row) > 2 and shared[row[-1], row[0]]:
                if not any(len([1 for group in row if person in table[group]]) > 2 for person in reading.crowd(book)):
                    found.add(tuple(sorted(row)))
        rows = [row for row in rows if len(row) < 3 or not shared[row[-1], row[0]]]
    return sorted(found)


def has_round_of(book, some):
    return any(set(way[0::2]) <= set(some) for way in plain_rounds(book))


def is_ring_run(book, some, thing):
    """Whether thing is such a pair, by the words of the document."""
    if type(thing) is not tuple or len(thing) != 2 or not reading.is_run(book, thing[0]):
        return False
    run, ring = thing
    if reading.letters_in(run) != [(group, 1) for group in names_of(book)] or not reading.is_ring(run, ring):
        return False
    own = [other for other in reading.rings(reading.cut_rows(run, lambda letter: letter in ring))]
    return reading.is_tight(own, ring) and sorted(set(group for group, _ in ring)) == sorted(some)


class Plain(unittest.TestCase):
    """The plain readings, held against ALL RUNS."""

    def test_circles_are_those_of_tight_rings(self):
        some = 0
        for book in SMALL_BOOKS + (CHORD, THREE):
            told = seen_in_runs(book, (1,) * len(book))[1]
            some += len(told) > 1
            self.assertEqual(circles(book), sorted(told), book)
        self.assertGreater(some, 20)

    def test_rounds_are_the_rings(self):
        for book in SMALL_BOOKS + (CHORD, THREE):
            of_rings = seen_in_runs(book, (1,) * len(book))[0]
            self.assertEqual(bool(of_rings), bool(plain_rounds(book)))

    def test_enough_of_each_kind_is_drawn(self):
        sizes = [len(some) for book in BOOKS + SMALL_BOOKS for some in circles(book)]
        self.assertGreater(sizes.count(2), 100)
        self.assertGreater(sizes.count(3), 30)
        self.assertGreater(sizes.count(4), 5)
        self.assertGreater(len([book for book in SMALL_BOOKS if not plain_rounds(book)]), 20)
        self.assertGreater(len(SMALL_BOOKS), 100)


class CanRing(Refusing):
    def test_can_ring(self):
        for book in BOOKS + SMALL_BOOKS:
            self.assertIs(rings.can_ring(book), bool(plain_rounds(book)))
        for book, right in ((FULL, True), (CIRCLE, True), (APART, False), (CHAIN, False), (SQUARE, True), (ROW, False)):
            self.assertIs(rings.can_ring(book), right)

    def test_can_ring_against_all_runs(self):
        for book in SMALL_BOOKS + (CHORD, THREE):
            of_rings = seen_in_runs(book, (1,) * len(book))[0]
            self.assertIs(rings.can_ring(book), bool(of_rings))
            for some in reading.subsets(names_of(book)):
                self.assertIs(rings.can_ring_of(book, some), any(set(ring) <= set(some) for ring in of_rings))

    def test_can_ring_of_all_sets(self):
        for book in BOOKS:
            for some in reading.subsets(names_of(book)):
                self.assertIs(rings.can_ring_of(book, some), has_round_of(book, some))

    def test_more_letters_show_nothing_else(self):
        draw = random.Random(66)
        more = 0
        for book in BOOKS + TOLD_BOOKS * 4:
            numbers = small_numbers(draw, book, 150)
            of_rings, of_tight, apart = seen_in_runs(book, numbers)
            more += bool(of_rings) and max(numbers) > 1
            for some in of_rings:
                self.assertIs(rings.can_ring_of(book, some), True)
                self.assertLessEqual(set(some), set(rings.ring_groups(book)))
            self.assertLessEqual(of_tight, set(rings.tight_sets(book)))
            self.assertLessEqual(apart, set(rings.pairs_apart(book)))
        self.assertGreater(more, 15)

    def test_ring_groups(self):
        for book in BOOKS + SMALL_BOOKS:
            found = [group for part in reading.parts(book) for group in part if has_round_of(book, part)]
            self.assertEqual(rings.ring_groups(book), tuple(sorted(found)))
        self.assertEqual(rings.ring_groups(FULL), tuple("abcdefgh"))
        self.assertEqual(rings.ring_groups(CIRCLE), tuple("abcdefgh"))
        self.assertEqual(rings.ring_groups(APART), ())
        self.assertEqual(rings.ring_groups(PARTS), ("a", "b", "c", "d", "e"))
        self.assertEqual(rings.tight_groups(PARTS), ("a", "b", "c", "d"))
        self.assertEqual(rings.tight_sets(PARTS), (("a", "c"), ("b", "d")))
        self.assertEqual(rings.ring_groups(SQUARE + (("x", ("x",)),)), ("a", "b", "c", "d", "e"))

    def test_ring_groups_against_all_runs(self):
        two = (("g", ("ann", "bob")), ("h", ("ann", "bob", "cy")), ("k", ("cy", "dee")), ("m", ("dee",)), ("n", ("eve",)))
        of_rings = seen_in_runs(two, (1, 2, 2, 1, 1))[0]
        self.assertEqual(rings.ring_groups(two), tuple(sorted(set().union(*of_rings))))
        self.assertEqual(rings.ring_groups(two), ("g", "h", "k", "m"))
        # One LETTER of each group is not enough for it.
        self.assertEqual(set().union(*seen_in_runs(two, (1, 1, 1, 1, 1))[0]), {"g", "h"})

    def test_no_group(self):
        for call in (rings.can_ring_of, rings.ring_run):
            self.refused(NoGroup, {"group": "x"}, call, ROW, ("a", "x", "y"))
            self.refused(NoGroup, {"group": "p"}, call, ROW, ("p",))
            self.refused(NoGroup, {"group": ""}, call, RING, ("", "a", "b", "x"))
        for thing in THINGS + (rings.ring_run(RING, ("a", "b", "c")),):
            self.refused(NoGroup, {"group": "x"}, rings.is_ring_run, RING, ("a", "b", "c", "x", "y"), thing)
        self.assertIs(rings.can_ring_of(ROW, ()), False)


class Tight(unittest.TestCase):
    def test_tight_sets(self):
        for book in BOOKS + SMALL_BOOKS + GREAT_BOOKS:
            self.assertEqual(rings.tight_sets(book), tuple(circles(book)))

    def test_against_all_runs(self):
        for book in SMALL_BOOKS + (CHORD, THREE):
            of_rings, of_tight, _ = seen_in_runs(book, (1,) * len(book))
            self.assertEqual(rings.tight_sets(book), tuple(sorted(of_tight)))
            self.assertEqual(rings.tight_groups(book), tuple(sorted(set().union(*of_tight))))
            self.assertEqual(rings.ring_sizes(book), tuple(sorted(set(len(some) for some in of_tight))))
            self.assertEqual(rings.fewest_letters(book), min((len(ring) for ring in of_rings), default=None))

    def test_groups_and_sizes(self):
        for book in BOOKS + GREAT_BOOKS:
            every = circles(book)
            sizes = sorted(set(len(some) for some in every))
            self.assertEqual(rings.tight_groups(book), tuple(sorted(set().union(*every))))
            self.assertEqual(rings.ring_sizes(book), tuple(sizes))
            self.assertEqual(rings.fewest_letters(book), sizes[0] if sizes else None)

    def test_tight_groups_stand_in_rounds(self):
        for book in BOOKS + SMALL_BOOKS:
            self.assertEqual(rings.tight_groups(book), tuple(sorted(set().union(*[way[0::2] for way in plain_rounds(book)]))))

    def test_told_ones(self):
        self.assertEqual(rings.tight_sets(FULL), tuple(itertools.combinations("abcdefgh", 2)))
        self.assertEqual(rings.tight_sets(CIRCLE), (tuple("abcdefgh"),))
        self.assertEqual(rings.ring_sizes(CIRCLE), (8,))
        self.assertEqual(rings.fewest_letters(CIRCLE), 8)
        self.assertEqual(rings.tight_sets(APART), ())
        self.assertEqual(rings.ring_sizes(APART), ())
        self.assertIsNone(rings.fewest_letters(APART))
        # Somebody in both b and d is a shorter way; somebody in all three is, too.
        self.assertEqual(rings.tight_sets(CHORD), (("a", "b", "d"), ("b", "c", "d")))
        self.assertEqual(rings.tight_sets(THREE), (("a", "b"), ("a", "c"), ("b", "c")))
        self.assertEqual(rings.tight_sets(SQUARE), (("a", "b", "c", "d"),))
        self.assertEqual(rings.tight_sets(SAME), (("a", "b"),))
        # Two circles apart from one another are none together.
        apart = RING + tuple((group, members) for group, members in zip("xyz", (("u", "w"), ("u", "v"), ("v", "w"))))
        self.assertEqual(rings.tight_sets(apart), (("a", "b", "c"), ("x", "y", "z")))

    def test_two_people_in_both_of_a_greater_circle(self):
        book = (("a", ("p", "q", "u")), ("b", ("p", "r", "u")), ("c", ("q", "r")))
        self.assertEqual(rings.tight_sets(book), (("a", "b"), ("a", "b", "c")))
        self.assertEqual(rings.ring_sizes(book), (2, 3))


class RingRuns(Refusing):
    def test_ring_run(self):
        for book in BOOKS + SMALL_BOOKS[:60] + (CHORD, THREE, FULL, CIRCLE, APART):
            every = circles(book)
            for some in reading.subsets(names_of(book)):
                pair = rings.ring_run(book, some)
                if some in every:
                    self.assertTrue(is_ring_run(book, some, pair), (book, some, pair))
                    self.assertIs(rings.is_ring_run(book, some, pair), True)
                else:
                    self.assertIsNone(pair)

    def test_great_books(self):
        for book in GREAT_BOOKS:
            for some in circles(book):
                pair = rings.ring_run(book, some)
                self.assertTrue(is_ring_run(book, some, pair))
                self.assertIs(rings.is_ring_run(book, some, pair), True)

    def test_all_runs_and_rings(self):
        told = {True: 0, False: 0}
        for book in SMALL_BOOKS[::3] + (CHORD, THREE):
            sets = reading.subsets(names_of(book))
            for run in reading.runs(book, (1,) * len(book))[:40]:
                for ring in reading.rings(run):
                    for some in [groups_of(ring), sets[len(ring)], sets[-1]]:
                        for turned in reading.turns(ring):
                            right = is_ring_run(book, some, (run, turned))
                            told[right] += 1
                            self.assertIs(rings.is_ring_run(book, some, (run, turned)), right)
        self.assertGreater(min(told.values()), 300)

    def test_bent_ones(self):
        draw = random.Random(67)
        told = {True: 0, False: 0}
        for book in BOOKS[:40] + (RING, SQUARE, CHORD, KNOT, BOW):
            for some in circles(book)[:2]:
                pair = rings.ring_run(book, some)
                for thing in bent(draw, pair):
                    right = is_ring_run(book, some, thing)
                    told[right] += 1
                    self.assertIs(rings.is_ring_run(book, some, thing), right, thing)
        self.assertGreater(told[False], 3000)
        self.assertGreater(told[True], 50)

    def test_rings_that_are_not_tight(self):
        # p sees a ahead of b, q b ahead of a: so the RING of all three is not tight.
        run = (("p", (("a", 1), ("b", 1))), ("q", (("b", 1), ("c", 1), ("a", 1))), ("r", (("c", 1), ("a", 1))))
        book = (("a", ("p", "q", "r")), ("b", ("p", "q")), ("c", ("q", "r")))
        ring = (("a", 1), ("b", 1), ("c", 1))
        self.assertTrue(reading.is_ring(run, ring))
        self.assertIs(rings.is_ring_run(book, ("a", "b", "c"), (run, ring)), False)
        self.assertIs(rings.is_ring_run(book, ("a", "b"), (run, ring[:2])), True)
        self.assertIs(rings.is_ring_run(book, ("a", "b", "c"), (run, ring[:2])), False)

    def test_runs_with_other_numbers_of_letters(self):
        clash = (("p", (("a", 1), ("b", 1))), ("q", (("b", 1), ("a", 1))))
        book = (("a", ("p", "q")), ("b", ("p", "q")))
        ring = (("a", 1), ("b", 1))
        self.assertIs(rings.is_ring_run(book, ("a", "b"), (clash, ring)), True)
        more = tuple((person, row + (("a", 2),)) for person, row in clash)
        self.assertIs(rings.is_ring_run(book, ("a", "b"), (more, ring)), False)
        wide = book + (("c", ("p",)),)
        self.assertIs(rings.is_ring_run(wide, ("a", "b"), (clash, ring)), False)
        late = ((clash[0][0], clash[0][1] + (("c", 1),)), clash[1])
        self.assertIs(rings.is_ring_run(wide, ("a", "b"), (late, ring)), True)

    def test_things_of_all_kinds(self):
        run, ring = rings.ring_run(RING, ("a", "b", "c"))
        for thing in THINGS:
            for bent_thing in (thing, (run, thing), (thing, ring), (run, ring, thing), (run, (thing,)), (run, ring + (thing,))):
                self.assertIs(rings.is_ring_run(RING, ("a", "b", "c"), bent_thing), False)
            self.assertIs(rings.is_ring_run(ROW, (), thing), False)


class Quiet(unittest.TestCase):
    def test_quiet_sets(self):
        for book in BOOKS + SMALL_BOOKS:
            quiet = [some for some in reading.subsets(names_of(book)) if not has_round_of(book, some)]
            greatest = [some for some in quiet if not any(set(some) < set(other) for other in quiet)]
            self.assertEqual(rings.quiet_sets(book), tuple(sorted(greatest)))
            most = max(len(some) for some in greatest)
            self.assertEqual(rings.most_quiet(book), min(some for some in greatest if len(some) == most))

    def test_against_all_runs(self):
        for book in SMALL_BOOKS + (CHORD, THREE):
            of_rings = seen_in_runs(book, (1,) * len(book))[0]
            quiet = [some for some in reading.subsets(names_of(book))
                     if not any(set(ring) <= set(some) for ring in of_rings)]
            greatest = [some for some in quiet if not any(set(some) < set(other) for other in quiet)]
            self.assertEqual(rings.quiet_sets(book), tuple(sorted(greatest)))

    def test_great_books(self):
        names = tuple("abcdefgh")
        self.assertEqual(rings.quiet_sets(FULL), tuple((name,) for name in names))
        self.assertEqual(rings.most_quiet(FULL), ("a",))
        self.assertEqual(rings.quiet_sets(CIRCLE), tuple(itertools.combinations(names, 7)))
        self.assertEqual(rings.most_quiet(CIRCLE), names[:7])
        for book in (APART, CHAIN):
            self.assertEqual(rings.quiet_sets(book), (tuple(names_of(book)),))
        for book in GREAT_BOOKS:
            found = rings.quiet_sets(book)
            for some in found:
                self.assertIs(rings.can_ring_of(book, some), False)
                for group in set(names_of(book)) - set(some):
                    self.assertIs(rings.can_ring_of(book, tuple(sorted(some + (group,)))), True)
            self.assertEqual(rings.most_quiet(book), min(found, key=lambda some: (-len(some), some)))

    def test_greatest_are_not_always_equally_great(self):
        book = (("a", ("p", "q", "r")), ("b", ("p", "q")), ("c", ("r", "p")), ("d", ("q", "r")))
        self.assertEqual(rings.quiet_sets(book), (("a",), ("b", "c"), ("b", "d"), ("c", "d")))
        self.assertEqual(rings.most_quiet(book), ("b", "c"))


class Apart(unittest.TestCase):
    def test_pairs_apart(self):
        for book in BOOKS + SMALL_BOOKS + GREAT_BOOKS:
            table = reading.unordered(book)
            found = tuple(pair for pair in itertools.combinations(sorted(table), 2) if len(table[pair[0]] & table[pair[1]]) > 1)
            self.assertEqual(rings.pairs_apart(book), found)
            self.assertIs(rings.agree_always(book), not found)

    def test_against_all_runs(self):
        for book in SMALL_BOOKS:
            apart = seen_in_runs(book, (1,) * len(book))[2]
            self.assertEqual(rings.pairs_apart(book), tuple(sorted(apart)))
            self.assertIs(rings.agree_always(book), not apart)


class CanBeRing(unittest.TestCase):
    def rings_in_runs(self, book, numbers):
        found = set()
        for run in reading.runs(book, numbers):
            for ring in reading.rings(run):
                found.update(reading.turns(ring))
        return found

    def test_against_all_runs(self):
        draw = random.Random(68)
        told = {True: 0, False: 0}
        ones = [(book, (1,) * len(book)) for book in circle_books(73, 20)]
        two = (("a", ("p", "q")), ("b", ("p", "q")))
        drawn = [(book, small_numbers(draw, book, 120)) for book in BOOKS + TOLD_BOOKS * 3 + (two,) * 20]
        for book, numbers in drawn + [(book, numbers) for book, numbers in ones if reading.many_runs(book, numbers) < 200]:
            found = self.rings_in_runs(book, numbers)
            letters = all_letters(book, numbers)
            for many in range(2, 1 + min(5, len(letters))):
                for row in itertools.permutations(letters, many):
                    told[row in found] += 1
                    self.assertIs(rings.can_be_ring(book, row), row in found, (book, row))
        self.assertGreater(min(told.values()), 1000)

    def test_whatever_numbers(self):
        draw = random.Random(69)
        told = {True: 0, False: 0}
        for book in BOOKS[:60] + TOLD_BOOKS * 5:
            pool = [(group, number) for group in names_of(book) for number in (1, 2, 3)]
            for _ in range(5):
                row = tuple(draw.sample(pool, draw.randint(2, min(5, len(pool)))))
                right = rings.can_be_ring(book, row)
                told[right] += 1
                for far in (lambda number: number * GREAT, lambda number: GREAT - 10 + number, lambda number: 4 * number - 3):
                    self.assertIs(rings.can_be_ring(book, tuple((group, far(number)) for group, number in row)), right)
                for turned in reading.turns(row):
                    self.assertIs(rings.can_be_ring(book, turned), right)
        self.assertGreater(min(told.values()), 30)

    def test_one_group_alone(self):
        for row in ((("a", 1), ("a", 2)), (("a", 2), ("a", 1)), (("a", 1), ("a", 3), ("a", 2))):
            self.assertIs(rings.can_be_ring(FULL, row), False)

    def test_great_books(self):
        five = (("a", 1), ("b", 1), ("c", 1), ("d", 1), ("e", 1))
        self.assertIs(rings.can_be_ring(FULL, five), True)
        self.assertIs(rings.can_be_ring(CIRCLE, five), False)
        self.assertIs(rings.can_be_ring(FULL, (("a", 2), ("b", 1), ("a", 1))), True)
        self.assertIs(rings.can_be_ring(FULL, (("a", 1), ("b", 1), ("a", 2))), False)
        self.assertIs(rings.can_be_ring(FULL, (("a", 1), ("b", 1), ("a", 3), ("a", 2))), False)
        self.assertIs(rings.can_be_ring(FULL, (("a", 1), ("a", 2), ("b", 1), ("b", 2), ("c", 7))), True)
        # It takes two people: one sees all steps but one.
        two = tuple((group, ("p", "q")) for group in "abcde")
        self.assertIs(rings.can_be_ring(two, five), True)
        self.assertIs(rings.can_be_ring(tuple((group, ("p",)) for group in "abcde"), five), False)
    def test_of_drawn_runs(self):
        draw = random.Random(70)
        some = 0
        for book in GREAT_BOOKS * 4:
            numbers = tuple(draw.choice((0, 1, 1, 2)) for _ in book)
            for ring in reading.rings(drawn_run(draw, book, numbers)) if sum(numbers) < 8 else ():
                if len(ring) < 6:
                    some += 1
                    self.assertIs(rings.can_be_ring(book, ring), True)
        self.assertGreater(some, 100)


if __name__ == "__main__":
    unittest.main()
