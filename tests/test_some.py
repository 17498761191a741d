"""[13]: some people, against all sets of people, all partings of them, all rounds and all runs of small books."""

import functools
import itertools
import random
import unittest

import reading
from checking import Refusing
from drawing import APART, BOW, CHAIN, CIRCLE, FULL, KNOT, LONE, NAMES, RING, ROW, SAME, SQUARE, THINGS, TOLD_BOOKS
from drawing import bent, bent_runs, circle_books, drawn_book, drawn_books, drawn_numbers, drawn_run, thick_books, thin_books
from drawing import wild_run
from orderrings import some
from orderrings.errors import NoPerson

BOOKS = drawn_books(241, 40) + thick_books(242, 20) + thin_books(243, 30) + circle_books(244, 30)
SMALL_BOOKS = tuple(
    book for book in BOOKS + circle_books(245, 20, 4) + drawn_books(246, 30, 3, 4)
    if reading.many_runs(book, (1,) * len(book)) <= 150
)
GREAT_BOOKS = (FULL, APART, CIRCLE, CHAIN) + tuple(drawn_book(random.Random(seed), 8, 8) for seed in range(2470, 2490))
# Any two people are together in one group, any three of them go round.
PAIRS = tuple((group, pair) for group, pair in zip("abcdefgh", itertools.combinations("pqrst", 2)))
THREE = (("g", ("a", "b")), ("h", ("b", "c")), ("k", ("a", "c")))


@functools.lru_cache(maxsize=None)
def plain_rounds(book):
    return reading.rounds(book) if len(book) < 7 else reading.grown_rounds(book)


def rounds_among(book, names):
    return [way for way in plain_rounds(book) if set(way[1::2]) <= set(names)]


def surely(book, names):
    return not rounds_among(book, names)


def rows_agree(run, names):
    return reading.has_weaving([pair for pair in run if pair[0] in names])


@functools.lru_cache(maxsize=None)
def plain_sets(book):
    return [names for names in reading.subsets(reading.crowd(book)) if surely(book, names)]


@functools.lru_cache(maxsize=None)
def fewest_partings(book):
    """All partings of the people into sets that surely agree, those with the fewest sets."""
    right = [sets for sets in reading.partings(reading.crowd(book)) if all(surely(book, names) for names in sets)]
    few = min(len(sets) for sets in right)
    return [sets for sets in right if len(sets) == few]


class Agree(Refusing):
    def test_agree(self):
        draw = random.Random(247)
        told = {True: 0, False: 0}
        for book in BOOKS + GREAT_BOOKS:
            for call, most in ((drawn_run, 6), (wild_run, 9), (wild_run, 24)):
                run = call(draw, book, drawn_numbers(draw, book, most))
                sets = reading.subsets(reading.crowd(book))
                for names in draw.sample(sets, min(10, len(sets))):
                    right = rows_agree(run, names)
                    told[right] += 1
                    self.assertIs(some.agree(book, run, names), right)
                self.assertIs(some.agree(book, run, ()), True)
        self.assertGreater(min(told.values()), 200)

    def test_surely_agree_against_all_runs(self):
        told = {True: 0, False: 0}
        for book in SMALL_BOOKS:
            every = reading.runs(book, (1,) * len(book))
            for names in reading.subsets(reading.crowd(book)):
                right = all(rows_agree(run, names) for run in every)
                told[right] += 1
                self.assertIs(some.surely_agree(book, names), right, (book, names))
                # Guarantee: exactly if no ROUND has people of these alone.
                self.assertIs(surely(book, names), right)
                run = some.quarrel_run(book, names)
                self.assertIs(run is None, right)
                if not right:
                    self.assertIn(run, [other for other in runs_to_one(book) if not rows_agree(other, names)])
        self.assertGreater(min(told.values()), 200)

    def test_two_letters_of_each_group(self):
        for book in [book for book in SMALL_BOOKS if reading.many_runs(book, (2,) * len(book)) < 800][:30]:
            every = reading.runs(book, (2,) * len(book))
            for names in reading.subsets(reading.crowd(book)):
                self.assertIs(some.surely_agree(book, names), all(rows_agree(run, names) for run in every))

    def test_surely_agree(self):
        for book in BOOKS:
            for names in reading.subsets(reading.crowd(book)):
                self.assertIs(some.surely_agree(book, names), surely(book, names))
        crowd = tuple("pqrstuvw")
        for book, names, right in (
            (FULL, ("p",), True), (FULL, ("p", "q"), False), (CIRCLE, crowd[1:], True), (CIRCLE, crowd, False),
            (CHAIN, crowd, True), (APART, crowd, True), (CHAIN, (), True),
        ):
            self.assertIs(some.surely_agree(book, names), right)

    def test_nobody(self):
        run = tuple((name, ()) for name in reading.crowd(RING))
        for names, first in ((("a",), "a"), (("p", "z"), "z"), (("a", "p", "z"), "a"), (("", "p"), "")):
            self.refused(NoPerson, {"person": first}, some.agree, RING, run, names)
            for call in (some.surely_agree, some.round_among, some.quarrel_run):
                self.refused(NoPerson, {"person": first}, call, RING, names)
            for thing in THINGS + (("a", "p", "b", "q", "c", "r"), run):
                self.refused(NoPerson, {"person": first}, some.is_round_among, RING, names, thing)
                self.refused(NoPerson, {"person": first}, some.is_quarrel_run, RING, names, thing)
        for one, other in itertools.product(NAMES, repeat=2):
            for book in BOOKS[:30]:
                nobody = [name for name in (one, other) if name not in reading.crowd(book)]
                for call in (some.can_cross, some.crossing_run):
                    if nobody:
                        self.refused(NoPerson, {"person": nobody[0]}, call, book, one, other)


def runs_to_one(book):
    """ALL RUNS with at most one LETTER of each group."""
    return [run for numbers in itertools.product((0, 1), repeat=len(book)) for run in reading.runs(book, numbers)]


class Rounds(unittest.TestCase):
    def test_round_among(self):
        count = {True: 0, False: 0}
        for book in BOOKS + (CIRCLE, CHAIN, APART, PAIRS):
            for names in reading.subsets(reading.crowd(book)):
                every = rounds_among(book, names)
                way = some.round_among(book, names)
                count[bool(every)] += 1
                if not every:
                    self.assertIsNone(way)
                    continue
                self.assertIn(way, every)
                self.assertEqual(len(way), min(len(other) for other in every))
                self.assertTrue(all(some.is_round_among(book, names, other) is True for other in every[:20]))
        self.assertGreater(min(count.values()), 200)

    def test_is_round_among(self):
        told = {True: 0, False: 0}
        for book in BOOKS:
            for way in plain_rounds(book)[:12]:
                for names in reading.subsets(reading.crowd(book)):
                    right = set(way[1::2]) <= set(names)
                    told[right] += 1
                    self.assertIs(some.is_round_among(book, names, way), right)
        self.assertGreater(min(told.values()), 200)

    def test_bent_ones(self):
        draw = random.Random(248)
        told = {True: 0, False: 0}
        for book in BOOKS:
            for way in plain_rounds(book)[:2]:
                names = tuple(sorted(set(way[1::2])))
                for thing in bent(draw, way):
                    right = thing in rounds_among(book, names)
                    told[right] += 1
                    self.assertIs(some.is_round_among(book, names, thing), right, thing)
        self.assertGreater(told[False], 3000)
        self.assertGreater(told[True], 20)

    def test_things_of_all_kinds(self):
        for thing in THINGS:
            for bent_thing in (thing, (thing,), ("a", "p", "b", "q", "c", thing), ("a", thing, "b", "q", "c", "r")):
                right = bent_thing == ("a", "p", "b", "q", "c", "r")
                self.assertIs(some.is_round_among(RING, ("p", "q", "r"), bent_thing), right)
                self.assertIs(some.is_round_among(RING, ("p", "q"), bent_thing), False)

    def test_groups_and_people_of_the_same_names(self):
        self.assertEqual(some.round_among(SAME, ("a", "b")), ("a", "a", "b", "b"))
        self.assertIs(some.is_round_among(SAME, ("a", "b"), ("a", "a", "b", "b")), True)
        self.assertIsNone(some.round_among(SAME, ("b", "c")))
        self.assertIsNone(some.round_among(LONE, ("a",)))

    def test_great_books(self):
        for book in GREAT_BOOKS:
            crowd = tuple(reading.crowd(book))
            for names in (crowd, crowd[:4], crowd[4:], crowd[::2], crowd[:1], ()):
                names = tuple(sorted(names))
                way = some.round_among(book, names)
                self.assertIs(some.surely_agree(book, names), way is None)
                if way is not None:
                    self.assertTrue(reading.is_plain_round(book, way))
                    self.assertLessEqual(set(way[1::2]), set(names))
        self.assertEqual(len(some.round_among(CIRCLE, tuple("pqrstuvw"))), 16)
        self.assertEqual(len(some.round_among(FULL, ("t", "w"))), 4)


class Sets(unittest.TestCase):
    def test_against_all_sets(self):
        friends = 0
        for book in BOOKS + (CIRCLE, CHAIN, APART, PAIRS):
            right = plain_sets(book)
            crowd = reading.crowd(book)
            least = [
                names for names in reading.subsets(crowd)
                if names not in right and all(set(other) == set(names) or other in right for other in reading.subsets(names))
            ]
            most = [names for names in right if not any(set(names) < set(other) for other in right)]
            found = some.quarrels(book)
            self.assertIs(type(found), list)
            self.assertEqual(found, sorted(least))
            found = some.greatest_agreeing(book)
            self.assertIs(type(found), list)
            self.assertEqual(found, sorted(most))
            lone = tuple(name for name in crowd if not any(name in names for names in least))
            friends += 0 < len(lone) < len(crowd)
            self.assertEqual(some.sure_friends(book), lone)
        self.assertGreater(friends, 10)

    def test_great_books(self):
        crowd = tuple("pqrstuvw")
        self.assertEqual(some.quarrels(FULL), list(itertools.combinations(crowd, 2)))
        self.assertEqual(some.greatest_agreeing(FULL), [(name,) for name in crowd])
        self.assertEqual(some.sure_friends(FULL), ())
        self.assertEqual(some.quarrels(CIRCLE), [crowd])
        self.assertEqual(some.greatest_agreeing(CIRCLE), list(itertools.combinations(crowd, 7)))
        for book in (APART, CHAIN):
            self.assertEqual(some.quarrels(book), [])
            self.assertEqual(some.greatest_agreeing(book), [crowd])
            self.assertEqual(some.sure_friends(book), crowd)
        for book in GREAT_BOOKS:
            sets = [names for names in reading.subsets(reading.crowd(book)) if some.surely_agree(book, names)]
            for names in some.quarrels(book):
                self.assertNotIn(names, sets)
                self.assertTrue(all(less in sets for less in itertools.combinations(names, len(names) - 1)))
            greatest = some.greatest_agreeing(book)
            self.assertTrue(all(any(set(names) <= set(other) for other in greatest) for names in sets))

    def test_guarantees(self):
        for book in BOOKS + GREAT_BOOKS:
            table = reading.unordered(book)
            for names in some.greatest_agreeing(book):
                for less in reading.subsets(names)[::3]:
                    self.assertIs(some.surely_agree(book, less), True)
            for one, other in itertools.permutations(reading.crowd(book), 2):
                both = [group for group in table if {one, other} <= table[group]]
                self.assertIs(some.can_cross(book, one, other), len(both) > 1)


class Partings(unittest.TestCase):
    def test_against_all_partings(self):
        sizes = []
        for book in BOOKS + (PAIRS,):
            right = fewest_partings(book)
            sizes.append(len(right[0]))
            self.assertEqual(some.fewest_sets(book), len(right[0]))
            self.assertIn(some.a_parting(book), right)
            for sets in reading.partings(reading.crowd(book)):
                self.assertIs(some.is_parting(book, sets), sets in right)
        for size, least in ((1, 20), (2, 20), (3, 5), (4, 1)):
            self.assertGreater(sizes.count(size), least)

    def test_great_books(self):
        crowd = tuple("pqrstuvw")
        self.assertEqual((some.fewest_sets(FULL), some.a_parting(FULL)), (8, tuple((name,) for name in crowd)))
        self.assertEqual((some.fewest_sets(CHAIN), some.a_parting(CHAIN)), (1, (crowd,)))
        self.assertEqual((some.fewest_sets(APART), some.fewest_sets(CIRCLE)), (1, 2))
        for book in GREAT_BOOKS:
            sets = some.a_parting(book)
            self.assertEqual(len(sets), some.fewest_sets(book))
            self.assertIs(some.is_parting(book, sets), True)
            self.assertEqual(sorted(name for names in sets for name in names), reading.crowd(book))
            right = {names for names in reading.subsets(reading.crowd(book)) if some.surely_agree(book, names)}
            self.assertTrue(all(names in right for names in sets))
            self.assertEqual(tuple(sorted(sets)), sets)
            # No fewer sets that surely agree have all people among them.
            covered, greatest = {()}, some.greatest_agreeing(book)
            for _ in range(len(sets) - 1):
                covered = {tuple(sorted(set(one) | set(other))) for one in covered for other in greatest}
            self.assertNotIn(tuple(reading.crowd(book)), covered)

    def test_bent_ones(self):
        draw = random.Random(249)
        told = {True: 0, False: 0}
        for book in BOOKS[:60] + (PAIRS,):
            for thing in bent(draw, some.a_parting(book)):
                right = thing in fewest_partings(book)
                told[right] += 1
                self.assertIs(some.is_parting(book, thing), right, thing)
        self.assertGreater(told[False], 2000)
        self.assertGreater(told[True], 20)

    def test_things_of_all_kinds(self):
        right = fewest_partings(RING)
        for thing in THINGS:
            for bent_thing in (thing, (thing,), (("p", "q"), thing), (("p", thing), ("q", "r")), (("p", "q"), ("r",), thing)):
                self.assertIs(some.is_parting(RING, bent_thing), bent_thing in right)
        for thing in ((("p", "q"), ("r",)), (("p",), ("q", "r")), (("p", "r"), ("q",))):
            self.assertIs(some.is_parting(RING, thing), True)
            self.assertIs(some.is_parting(RING, thing[::-1]), False)
            self.assertIs(some.is_parting(RING, ((),) + thing), False)
        self.assertIs(some.is_parting(RING, (("p",), ("q",), ("r",))), False)
        self.assertIs(some.is_parting(RING, (("p", "q", "r"),)), False)
        self.assertIs(some.is_parting(LONE, (("a",),)), True)
        self.assertIs(some.is_parting(LONE, ((), ("a",))), False)


class Quarrels(unittest.TestCase):
    def one_each(self, book, run):
        return all(number == 1 for _, number in reading.letters_in(run))

    def test_crossing_run(self):
        told = {True: 0, False: 0}
        for book in BOOKS + GREAT_BOOKS:
            for one, other in itertools.product(reading.crowd(book), repeat=2):
                table = reading.unordered(book)
                right = one != other and len([group for group in table if {one, other} <= table[group]]) > 1
                told[right] += 1
                self.assertIs(some.can_cross(book, one, other), right)
                run = some.crossing_run(book, one, other)
                if not right:
                    self.assertIsNone(run)
                    continue
                self.assertTrue(reading.is_run(book, run))
                self.assertTrue(self.one_each(book, run))
                self.assertFalse(rows_agree(run, (one, other)))
                self.assertIs(some.is_quarrel_run(book, tuple(sorted((one, other))), run), True)
        self.assertGreater(min(told.values()), 200)

    def test_quarrel_run(self):
        draw = random.Random(250)
        told = {True: 0, False: 0}
        for book in BOOKS + GREAT_BOOKS + (PAIRS,):
            sets = reading.subsets(reading.crowd(book))
            for names in draw.sample(sets, min(20, len(sets))) + [(), tuple(reading.crowd(book))]:
                right = not some.surely_agree(book, names)
                told[right] += 1
                run = some.quarrel_run(book, names)
                if not right:
                    self.assertIsNone(run)
                    continue
                self.assertTrue(reading.is_run(book, run))
                self.assertTrue(self.one_each(book, run))
                self.assertFalse(rows_agree(run, names))
                self.assertIs(some.is_quarrel_run(book, names, run), True)
        self.assertGreater(min(told.values()), 200)

    def test_is_quarrel_run(self):
        draw = random.Random(251)
        told = {True: 0, False: 0}
        for book in BOOKS + (THREE,) * 20 + (SQUARE, BOW, KNOT) * 8 + GREAT_BOOKS:
            for call, most in ((drawn_run, 6), (wild_run, 12)):
                run = call(draw, book, drawn_numbers(draw, book, most))
                sets = reading.subsets(reading.crowd(book))
                for names in draw.sample(sets, min(6, len(sets))) + [sets[-1]]:
                    right = not rows_agree(run, names)
                    told[right] += 1
                    self.assertIs(some.is_quarrel_run(book, names, run), right)
        self.assertGreater(min(told.values()), 150)

    def test_bent_ones(self):
        draw = random.Random(252)
        told = {True: 0, False: 0}
        for book in BOOKS[:50] + TOLD_BOOKS:
            names = tuple(reading.crowd(book))
            run = some.quarrel_run(book, names)
            if run is None:
                continue
            for thing in list(bent(draw, run)) + list(bent_runs(draw, run)):
                right = reading.is_run(book, thing) and not rows_agree(thing, names)
                told[right] += 1
                self.assertIs(some.is_quarrel_run(book, names, thing), right, thing)
        self.assertGreater(told[False], 3000)
        self.assertGreater(told[True], 20)

    def test_things_of_all_kinds(self):
        run = some.quarrel_run(THREE, ("a", "b", "c"))
        for thing in THINGS:
            for bent_thing in (thing, (thing,), run[:2] + (thing,), run[:2] + (("c", thing),), run[:2] + (("c", (thing,)),)):
                right = reading.is_run(THREE, bent_thing) and not rows_agree(bent_thing, ("a", "b", "c"))
                self.assertIs(some.is_quarrel_run(THREE, ("a", "b", "c"), bent_thing), right)
                self.assertIs(some.is_quarrel_run(THREE, (), bent_thing), False)

    def test_calm_books(self):
        for book in (ROW, CHAIN, APART, LONE):
            self.assertIsNone(some.quarrel_run(book, tuple(reading.crowd(book))))
            self.assertEqual(some.quarrels(book), [])


if __name__ == "__main__":
    unittest.main()
