"""[9]: told runs judged, against all rings, all rows of letters and all sets of groups, people and letters."""

import itertools
import random
import unittest

import reading
from checking import Refusing
from drawing import APART, BOW, CHAIN, CIRCLE, FULL, KNOT, RING, ROW, SQUARE, THINGS, TOLD_BOOKS
from drawing import all_letters, bent, circle_books, drawn_book, drawn_books, drawn_numbers, drawn_row, drawn_run, thick_books
from drawing import thin_books, wild_run
from orderrings import judged
from orderrings.errors import NoGroup

BOOKS = drawn_books(101, 60) + thick_books(102, 25) + thin_books(103, 40) + circle_books(104, 40)
GREAT_BOOKS = (FULL, CIRCLE, CHAIN, APART) + tuple(drawn_book(random.Random(seed), 8, 8) for seed in range(1040, 1052))
ROUND_RUN = (("p", (("a", 1), ("b", 1))), ("q", (("b", 1), ("c", 1))), ("r", (("c", 1), ("a", 1))))


def drawn_pairs(seed, books, most):
    """Pairs (BOOK, RUN)."""
    draw = random.Random(seed)
    found = [(book, drawn_run(draw, book, drawn_numbers(draw, book, most))) for book in books]
    return found + [(book, wild_run(draw, book, drawn_numbers(draw, book, most))) for book in books]


def thick_pairs(seed, many):
    """Pairs of a BOOK in which the groups have much in common and a RUN that has one LETTER or two of each."""
    draw = random.Random(seed)
    return [(book, wild_run(draw, book, tuple(draw.choice((1, 1, 2)) for _ in book))) for book in thick_books(seed, many)]


PAIRS = drawn_pairs(105, BOOKS, 7) + drawn_pairs(106, TOLD_BOOKS * 4, 7) + thick_pairs(114, 40) + [(RING, ROUND_RUN)] + [
    (book, run) for book in circle_books(107, 12, 4) if reading.many_runs(book, (1,) * len(book)) < 40
    for run in reading.runs(book, (1,) * len(book))
]
GREAT_PAIRS = drawn_pairs(108, GREAT_BOOKS * 2, 24)
RINGS = {run: reading.rings(run) for _, run in PAIRS}


def short_ones(run):
    every = RINGS[run]
    return [ring for ring in every if len(ring) == min(len(other) for other in every)]


def without(run, off):
    return reading.cut_rows(run, lambda letter: letter not in off)


def cut(book, run, some):
    """The RUN of the BOOK cut to these groups."""
    table = reading.unordered(book)
    crowd = set(person for group in some for person in table[group])
    return tuple((person, tuple(letter for letter in row if letter[0] in some)) for person, row in run if person in crowd)


def least_of(values, fits):
    return next((some for some in reading.subsets(values) if fits(some)), None)


def reaches(run):
    """For each LETTER the set of those that come behind it, at once or by others between."""
    after = {letter: set(other for one, other in reading.seen_pairs(run) if one == letter) for letter in reading.letters_in(run)}
    for _ in after:
        after = {letter: others.union(*[after[other] for other in others]) for letter, others in after.items()}
    return after


def plain_circles(run):
    """The sets of LETTERS that are mixed up: RINGS with a LETTER in common put together."""
    sets = []
    for ring in RINGS[run]:
        joined = set(ring).union(*[some for some in sets if some & set(ring)])
        sets = [some for some in sets if not some & set(ring)] + [joined]
    return tuple(sorted(tuple(sorted(some)) for some in sets))


class Plain(unittest.TestCase):
    def test_enough_of_each_kind_is_drawn(self):
        sizes = [len(short_ones(run)[0]) if RINGS[run] else 0 for run in RINGS]
        self.assertGreater(sizes.count(0), 100)
        self.assertGreater(sizes.count(2), 60)
        self.assertGreater(sizes.count(3), 15)
        self.assertGreater(sizes.count(4), 3)
        self.assertGreater(len([run for run in RINGS if len(plain_circles(run)) > 1]), 3)
        self.assertGreater(len([run for run in RINGS if len(RINGS[run]) > 5]), 20)

    def test_rings_or_none(self):
        for _, run in PAIRS:
            self.assertEqual(bool(RINGS[run]), not reading.has_weaving(run))


class Seen(unittest.TestCase):
    def test_seen_by(self):
        for _, run in PAIRS:
            for one, other in itertools.product(reading.letters_in(run), repeat=2):
                found = tuple(person for person, row in run if (one, other) in itertools.combinations(row, 2))
                self.assertEqual(judged.seen_by(run, one, other), found)

    def test_seers_of(self):
        some = 0
        for _, run in PAIRS:
            for ring in RINGS[run]:
                for turned in reading.turns(ring)[:3]:
                    seers = judged.seers_of(run, turned)
                    self.assertEqual(len(seers), len(turned))
                    for at, names in enumerate(seers):
                        pair = (turned[at], turned[(at + 1) % len(turned)])
                        self.assertEqual(names, tuple(name for name, row in run if pair in itertools.combinations(row, 2)))
                        some += len(names) > 1
        self.assertGreater(some, 50)

    def test_clashes(self):
        for _, run in PAIRS:
            seen = reading.seen_pairs(run)
            found = tuple((one, other) for one, other in seen if one < other and (other, one) in seen)
            self.assertEqual(judged.clashes(run), found)
        self.assertEqual(judged.clashes(ROUND_RUN), ())


class IsRing(unittest.TestCase):
    def test_all_rows_of_letters(self):
        told = {True: 0, False: 0}
        for _, run in PAIRS:
            letters = reading.letters_in(run)
            rings = set(turned for ring in RINGS[run] for turned in reading.turns(ring))
            short = set(turned for ring in RINGS[run] and short_ones(run) for turned in reading.turns(ring))
            for many in range(min(5, len(letters) + 1)):
                rows = list(itertools.permutations(letters, many))
                for row in random.Random(many).sample(rows, min(60, len(rows))) + [ring for ring in rings if len(ring) == many]:
                    told[row in rings] += 1
                    self.assertIs(judged.is_ring(run, row), row in rings)
                    self.assertIs(judged.is_short_ring(run, row), row in short)
        self.assertGreater(min(told.values()), 500)

    def test_bent_ones(self):
        draw = random.Random(109)
        told = {True: 0, False: 0}
        for run in RINGS:
            for ring in RINGS[run][:2]:
                for thing in bent(draw, ring):
                    right = reading.is_ring(run, thing)
                    told[right] += 1
                    self.assertIs(judged.is_ring(run, thing), right, thing)
                    self.assertIs(judged.is_short_ring(run, thing), right and len(thing) == len(short_ones(run)[0]))
        self.assertGreater(told[False], 3000)
        self.assertGreater(told[True], 100)

    def test_things_of_all_kinds(self):
        for thing in THINGS:
            for bent_thing in (thing, (thing,), (("a", 1), thing, ("c", 1)), (("a", 1), ("b", thing), ("c", 1)),
                               (("a", 1), (thing, 1), ("c", 1)), (("a", 1), ("b", 1), ("c", 1), thing)):
                right = reading.is_ring(ROUND_RUN, bent_thing)
                self.assertIs(judged.is_ring(ROUND_RUN, bent_thing), right)
                self.assertIs(judged.is_short_ring(ROUND_RUN, bent_thing), right)
                self.assertIs(judged.is_ring((("p", ()),), bent_thing), False)

    def test_true_is_no_number(self):
        self.assertIs(judged.is_ring(ROUND_RUN, (("a", 1), ("b", 1), ("c", 1))), True)
        self.assertIs(judged.is_ring(ROUND_RUN, (("a", True), ("b", 1), ("c", 1))), False)


class ShortRings(unittest.TestCase):
    def test_short_rings(self):
        for _, run in PAIRS:
            short = short_ones(run) if RINGS[run] else []
            found = judged.short_rings(run)
            self.assertIs(type(found), list)
            self.assertEqual(found, short)
            self.assertEqual(judged.short_ring(run), len(short[0]) if short else None)
            one = judged.a_ring(run)
            if short:
                self.assertIn(one, [turned for ring in short for turned in reading.turns(ring)])
                self.assertIs(judged.is_short_ring(run, one), True)
            else:
                self.assertIsNone(one)

    def test_guarantees(self):
        for book, run in PAIRS + GREAT_PAIRS:
            for ring in judged.short_rings(run)[:40]:
                self.assertEqual(len(set(group for group, _ in ring)), len(ring))
                self.assertLessEqual(len(ring), min(len(book), len(run)))
                seers = [name for names in judged.seers_of(run, ring) for name in names]
                self.assertEqual(len(set(seers)), len(seers))

    def test_24_letters(self):
        some = 0
        for _, run in GREAT_PAIRS:
            after = {one: set() for one in reading.letters_in(run)}
            for one, other in reading.seen_pairs(run):
                after[one].add(other)
            found = []
            rows = [(letter,) for letter in after]
            # No short RING has more LETTERS than there are people.
            while rows and not found:
                rows = [row + (letter,) for row in rows for letter in after[row[-1]] if letter > row[0] and letter not in row]
                found = sorted(row for row in rows if row[0] in after[row[-1]])
                if len(rows) > 60000:
                    break
            else:
                some += bool(found)
                self.assertEqual(judged.short_rings(run), found)
                self.assertEqual(judged.short_ring(run), len(found[0]) if found else None)
        self.assertGreater(some, 8)

    def test_rings_of_eight(self):
        # Everybody has three LETTERS of each group, each of the one ahead of each of the other one, round.
        rows = []
        for person in reading.crowd(CIRCLE):
            one, other = [group for group, members in CIRCLE if person in members]
            order = (other, one) if (one, other) == ("a", "h") else (one, other)
            rows.append((person, tuple((group, number) for group in order for number in (1, 2, 3))))
        found = judged.short_rings(tuple(rows))
        self.assertEqual(found, sorted(
            tuple(zip("abcdefgh", numbers)) for numbers in itertools.product((1, 2, 3), repeat=8)
        ))
        self.assertEqual(judged.short_ring(tuple(rows)), 8)


class Mixed(unittest.TestCase):
    def test_ring_letters_and_mixed_up(self):
        for _, run in PAIRS:
            self.assertEqual(judged.ring_letters(run), tuple(sorted(set(letter for ring in RINGS[run] for letter in ring))))
            self.assertEqual(judged.mixed_up(run), plain_circles(run))

    def test_settled(self):
        some = 0
        for _, run in PAIRS:
            rings = set(letter for ring in RINGS[run] for letter in ring)
            after = reaches(run)
            found = [letter for letter in after if letter not in rings and not any(letter in after[other] for other in rings)]
            some += len(found) < len(after) - len(rings)
            self.assertEqual(judged.settled_letters(run), tuple(sorted(found)))
        self.assertGreater(some, 20)

    def test_24_letters(self):
        for _, run in GREAT_PAIRS:
            after = reaches(run)
            rings = [letter for letter in after if letter in after[letter]]
            self.assertEqual(judged.ring_letters(run), tuple(sorted(rings)))
            sets = set(tuple(sorted(other for other in rings if other in after[one] and one in after[other])) for one in rings)
            self.assertEqual(judged.mixed_up(run), tuple(sorted(sets)))
            found = [letter for letter in after if not any(letter in after[other] for other in rings)]
            self.assertEqual(judged.settled_letters(run), tuple(sorted(found)))

    def test_no_letters(self):
        for run in ((("p", ()),), (("p", ()), ("q", ()))):
            for call in (judged.clashes, judged.ring_letters, judged.mixed_up, judged.settled_letters, judged.least_people_off,
                         judged.mending_swaps, judged.least_letters_off):
                self.assertEqual(call(run), ())
            self.assertEqual(judged.short_rings(run), [])
            self.assertIsNone(judged.short_ring(run))
            self.assertIsNone(judged.a_ring(run))
            self.assertEqual(judged.against_row(run, ()), ())


class Cut(Refusing):
    def test_cut_run(self):
        for book, run in PAIRS + GREAT_PAIRS:
            names = [group for group, _ in book]
            sets = reading.subsets(names)[1:] if len(names) < 6 else [tuple(names), tuple(names[1:4]), tuple(names[-1:])]
            for some in sets:
                found = judged.cut_run(book, run, some)
                self.assertEqual(found, cut(book, run, some))
                self.assertTrue(reading.is_run(tuple(entry for entry in book if entry[0] in some), found))

    def test_no_group(self):
        run = (("p", ()), ("q", ()), ("r", ()), ("s", ()))
        self.refused(NoGroup, {"group": "x"}, judged.cut_run, ROW, run, ("a", "x", "y"))
        self.refused(NoGroup, {"group": "p"}, judged.cut_run, ROW, run, ("p",))
        self.refused(NoGroup, {"group": ""}, judged.cut_run, ROW, run, ("", "a"))

    def test_least_ring_groups(self):
        for book, run in PAIRS:
            names = [group for group, _ in book]
            least = least_of(names, lambda some: some and reading.has_ring(cut(book, run, some)))
            self.assertEqual(judged.least_ring_groups(book, run), least)
            if RINGS[run]:
                self.assertEqual(len(least), len(short_ones(run)[0]))

    def test_least_ring_groups_of_24_letters(self):
        for book, run in GREAT_PAIRS:
            rings = judged.short_rings(run)
            least = min((tuple(sorted(group for group, _ in ring)) for ring in rings), default=None)
            self.assertEqual(judged.least_ring_groups(book, run), least)


class Rows(unittest.TestCase):
    def test_against_all_rows(self):
        draw = random.Random(110)
        for _, run in PAIRS:
            letters = reading.letters_in(run)
            rows = list(itertools.permutations(letters)) if len(letters) < 5 else [
                tuple(draw.sample(letters, len(letters))) for _ in range(12)] + [drawn_row(draw, letters) for _ in range(12)]
            for row in rows:
                found = tuple(name for name, own in run if [letter for letter in row if letter in own] != list(own))
                self.assertEqual(judged.against_row(run, row), found)

    def test_a_weaving_is_against_nobody(self):
        for _, run in PAIRS:
            if not RINGS[run] and len(reading.letters_in(run)) < 7:
                for row in reading.weavings(run)[:5]:
                    self.assertEqual(judged.against_row(run, row), ())

    def test_24_letters(self):
        draw = random.Random(111)
        for _, run in GREAT_PAIRS:
            letters = reading.letters_in(run)
            row = drawn_row(draw, letters)
            found = tuple(name for name, own in run if [letter for letter in row if letter in own] != list(own))
            self.assertEqual(judged.against_row(run, row), found)


class PeopleOff(unittest.TestCase):
    def off(self, run):
        return least_of([person for person, _ in run], lambda names: reading.has_weaving(
            tuple((person, row) for person, row in run if person not in names)))

    def test_least_people_off(self):
        for _, run in PAIRS:
            self.assertEqual(judged.least_people_off(run), self.off(run))

    def test_by_all_rows_of_letters(self):
        # As few as are against some row of all LETTERS.
        for _, run in PAIRS:
            letters = reading.letters_in(run)
            if len(letters) < 6:
                few = min(len(judged.against_row(run, row)) for row in itertools.permutations(letters))
                self.assertEqual(len(judged.least_people_off(run)), few)

    def test_24_letters(self):
        for _, run in GREAT_PAIRS:
            self.assertEqual(judged.least_people_off(run), self.off(run))


class Swaps(unittest.TestCase):
    def swaps(self, run):
        found = []
        for at, (person, row) in enumerate(run):
            for place in range(len(row) - 1):
                new = row[:place] + (row[place + 1], row[place]) + row[place + 2:]
                if row[place][0] != row[place + 1][0] and reading.has_weaving(run[:at] + ((person, new),) + run[at + 1:]):
                    found.append((person, place))
        return tuple(found)

    def test_mending_swaps(self):
        rings, calm = 0, 0
        for _, run in PAIRS + GREAT_PAIRS:
            found = self.swaps(run)
            if reading.has_weaving(run):
                calm += bool(found)
            else:
                rings += bool(found)
            self.assertEqual(judged.mending_swaps(run), found)
        self.assertGreater(rings, 40)
        self.assertGreater(calm, 40)

    def test_letters_of_one_group_are_not_exchanged(self):
        run = (("p", (("a", 1), ("a", 2))), ("q", (("a", 1), ("a", 2), ("b", 1))))
        self.assertEqual(judged.mending_swaps(run), (("q", 1),))


class LettersOff(unittest.TestCase):
    def off(self, run):
        return least_of(reading.letters_in(run), lambda letters: reading.has_weaving(without(run, letters)))

    def test_least_letters_off(self):
        sizes = []
        for _, run in PAIRS:
            least = self.off(run)
            sizes.append(len(least))
            self.assertEqual(judged.least_letters_off(run), least)
        self.assertGreater(sizes.count(2), 5)

    def test_ten_letters(self):
        draw = random.Random(112)
        some = 0
        for book in (FULL, CIRCLE, KNOT, BOW, SQUARE) + thick_books(113, 6):
            run = wild_run(draw, book, tuple(2 if at < 5 else 0 for at, _ in enumerate(book)))
            least = self.off(run)
            some += bool(least)
            self.assertEqual(judged.least_letters_off(run), least)
        self.assertGreater(some, 3)
        letters = all_letters(FULL, (2, 2, 2, 2, 2, 0, 0, 0))
        turned = tuple((group, number) for group in "edcba" for number in (1, 2))
        run = tuple((person, letters if person < "s" else turned) for person in reading.crowd(FULL))
        # LETTERS of two groups always go round: so those of one group alone stay.
        self.assertEqual(judged.least_letters_off(run), letters[:8])


if __name__ == "__main__":
    unittest.main()
