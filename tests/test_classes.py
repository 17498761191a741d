"""[8]: classes of groups, against all classes of small books and all runs of one letter of each group."""

import functools
import itertools
import random
import unittest

import reading
from checking import Refusing
from drawing import APART, BOW, CHAIN, CIRCLE, FULL, KNOT, RING, ROW, SAME, SQUARE, THINGS, TOLD_BOOKS
from drawing import bent, circle_books, drawn_book, drawn_books, drawn_numbers, drawn_run, small_numbers, thick_books
from drawing import thin_books
from orderrings import classes
from orderrings.errors import NoNumber

BOOKS = tuple(
    book for book in drawn_books(81, 60) + thick_books(82, 20) + thin_books(83, 40) + circle_books(84, 40)
    if len(book) < 6
)
# Of these all RUNS with one LETTER of each group are listed.
SMALL_BOOKS = tuple(
    book for book in BOOKS + drawn_books(85, 40, 3, 4) + circle_books(86, 30, 4)
    if len(book) < 6 and reading.many_runs(book, (1,) * len(book)) <= 130
)
GREAT_BOOKS = (FULL, APART, CIRCLE, CHAIN) + tuple(drawn_book(random.Random(seed), 8, 8) for seed in range(860, 890))
GREAT = 10 ** 30


def names_of(book):
    return [group for group, _ in book]


@functools.lru_cache(maxsize=None)
def all_classes(book):
    return reading.partings(names_of(book))


@functools.lru_cache(maxsize=None)
def plain_rounds(book):
    return reading.rounds(book)


def within(some, sets):
    """Whether these groups are all in one of the sets."""
    return any(set(some) <= set(own) for own in sets)


def is_right(book, sets):
    return all(within(way[0::2], sets) for way in plain_rounds(book))


def right_classes(book):
    return [sets for sets in all_classes(book) if is_right(book, sets)]


def coarser(one, other):
    return all(within(some, one) for some in other)


def keeps(sets, run):
    """Whether for each set there is a row of its LETTERS in the order of which everybody has them."""
    for some in sets:
        cut = reading.cut_rows(run, lambda letter: letter[0] in some)
        letters = reading.letters_in(cut)
        if not any(all([letter for letter in row if letter in own] == list(own) for _, own in cut)
                   for row in itertools.permutations(letters)):
            return False
    return True


def keeps_by_weaving(sets, run):
    return all(reading.has_weaving(reading.cut_rows(run, lambda letter: letter[0] in some)) for some in sets)


def joined(sets, pair):
    """The CLASSES with the classes of these two groups made one."""
    touched = [some for some in sets if set(some) & set(pair)]
    return tuple(sorted([some for some in sets if some not in touched] + [tuple(sorted(set().union(*touched)))]))


def one_letter_runs(book):
    return reading.runs(book, (1,) * len(book))


def is_class_ring(book, sets, thing):
    if type(thing) is not tuple or len(thing) != 2 or not reading.is_run(book, thing[0]):
        return False
    run, ring = thing
    one_each = reading.letters_in(run) == [(group, 1) for group in names_of(book)]
    return one_each and keeps_by_weaving(sets, run) and reading.is_ring(run, ring)


class Plain(unittest.TestCase):
    """The plain readings, held against ALL RUNS."""

    def test_right_by_rounds_or_by_all_runs(self):
        told = {True: 0, False: 0}
        for book in SMALL_BOOKS:
            rings = [run for run in one_letter_runs(book) if reading.has_ring(run)]
            for sets in all_classes(book):
                right = not any(keeps_by_weaving(sets, run) for run in rings)
                told[right] += 1
                self.assertIs(is_right(book, sets), right)
                self.assertIs(classes.are_right(book, sets), right)
        self.assertGreater(min(told.values()), 200)

    def test_more_letters_show_nothing_else(self):
        draw = random.Random(87)
        for book in BOOKS:
            rights = right_classes(book)
            for run in reading.runs(book, small_numbers(draw, book, 60)):
                if reading.has_ring(run):
                    self.assertFalse([sets for sets in rights if keeps_by_weaving(sets, run)])

    def test_enough_of_each_kind_is_drawn(self):
        self.assertGreater(len([book for book in BOOKS if len(right_classes(book)) == 1]), 20)
        self.assertGreater(len([book for book in BOOKS if 1 < len(right_classes(book)) < 5]), 20)
        self.assertGreater(len([book for book in BOOKS if len(book) == 5]), 15)
        self.assertGreater(len(SMALL_BOOKS), 60)


class IsClasses(unittest.TestCase):
    def test_all_classes(self):
        for book in BOOKS:
            for sets in all_classes(book):
                self.assertIs(classes.is_classes(book, sets), True)
            self.assertEqual(classes.lone_classes(book), tuple((group,) for group in names_of(book)))
            self.assertEqual(classes.one_class(book), (tuple(names_of(book)),))

    def test_bent_ones(self):
        draw = random.Random(88)
        told = {True: 0, False: 0}
        for book in BOOKS[:40] + TOLD_BOOKS:
            every = all_classes(book)
            for sets in draw.sample(every, min(4, len(every))):
                for thing in bent(draw, sets):
                    right = thing in every and not isinstance(thing, list)
                    told[right] += 1
                    self.assertIs(classes.is_classes(book, thing), right, thing)
        self.assertGreater(told[False], 2000)
        self.assertGreater(told[True], 20)

    def test_bent_in_one_known_way(self):
        for thing in (
            (), [], (("a", "b", "c"), ()), ((), ("a", "b", "c")), (("a",), ("b",)), (("a", "b"), ("b", "c")), (("b", "a"), ("c",)),
            (("c",), ("a", "b")), (("a", "b", "c", "d"),), (("a", "a", "b", "c"),), (("a",), ("a",), ("b", "c")), ["a", "b", "c"],
            ("a", "b", "c"), ("abc",), [("a", "b", "c")], (["a", "b", "c"],), (("a", "b", "c"), ("p",)), (("a", "b"), "c"),
            ((("a",), ("b",), ("c",)),), (("a", "b", "c"), None), (("a", None), ("b", "c")), (("a", "b", 1),),
        ):
            self.assertIs(classes.is_classes(RING, thing), False, thing)

    def test_things_of_all_kinds(self):
        book = (("a", ("p",)), ("b", ("p",)))
        for thing in THINGS:
            for bent_thing in (thing, (thing,), ((thing,),), (("a",), thing), (("a",), (thing,)), (("a", thing),)):
                right = bent_thing in ((("a",), ("b",)), (("a", "b"),)) and "list" not in repr(bent_thing)
                self.assertIs(classes.is_classes(book, bent_thing), right, bent_thing)

    def test_great_books(self):
        for book in GREAT_BOOKS:
            self.assertIs(classes.is_classes(book, classes.lone_classes(book)), True)
            self.assertIs(classes.is_classes(book, classes.one_class(book)), True)
            self.assertIs(classes.is_classes(book, classes.lone_classes(book)[::-1]), len(book) == 1)


class Keeping(unittest.TestCase):
    def test_all_rows_of_letters(self):
        draw = random.Random(89)
        told = {True: 0, False: 0}
        for book in BOOKS + TOLD_BOOKS * 4:
            for _ in range(3):
                run = drawn_run(draw, book, drawn_numbers(draw, book, 5))
                for sets in draw.sample(all_classes(book), min(6, len(all_classes(book)))):
                    right = keeps(sets, run)
                    told[right] += 1
                    self.assertEqual(keeps_by_weaving(sets, run), right)
                    self.assertIs(classes.keeps_classes(book, sets, run), right)
        self.assertGreater(min(told.values()), 100)

    def test_all_runs(self):
        for book in SMALL_BOOKS[::3]:
            for run in one_letter_runs(book):
                for sets in all_classes(book):
                    self.assertIs(classes.keeps_classes(book, sets, run), keeps_by_weaving(sets, run))

    def test_24_letters(self):
        draw = random.Random(90)
        for book in GREAT_BOOKS:
            run = drawn_run(draw, book, drawn_numbers(draw, book, 24))
            self.assertIs(classes.keeps_classes(book, classes.lone_classes(book), run), True)
            self.assertIs(classes.keeps_classes(book, classes.one_class(book), run), reading.has_weaving(run))
            half = tuple(some for some in (tuple(names_of(book)[0::2]), tuple(names_of(book)[1::2])) if some)
            self.assertIs(classes.keeps_classes(book, half, run), keeps_by_weaving(half, run))


class Right(unittest.TestCase):
    def test_finest(self):
        for book in BOOKS + SMALL_BOOKS:
            rights = right_classes(book)
            most = max(len(sets) for sets in rights)
            finest = [sets for sets in rights if len(sets) == most]
            self.assertEqual([classes.finest_right(book)], finest)
            self.assertEqual([sets for sets in all_classes(book) if coarser(sets, finest[0])], rights)
            for sets in all_classes(book):
                self.assertIs(classes.are_right(book, sets), sets in rights)

    def test_finest_joins_rows_of_rounds(self):
        for book in BOOKS:
            sets = [(group,) for group in names_of(book)]
            for way in plain_rounds(book):
                sets = list(joined(sets, way[0::2]))
            self.assertEqual(classes.finest_right(book), tuple(sorted(sets)))

    def test_must_join(self):
        for book in BOOKS + SMALL_BOOKS:
            pairs = [pair for pair in itertools.combinations(names_of(book), 2)
                     if all(within(pair, sets) for sets in right_classes(book))]
            self.assertEqual(classes.must_join(book), tuple(pairs))
        # The groups of both classes stand by turns.
        book = (("a", ("p", "q")), ("b", ("u", "v")), ("c", ("p", "q")), ("d", ("u", "v")), ("e", ("p", "q")))
        self.assertEqual(classes.finest_right(book), (("a", "c", "e"), ("b", "d")))
        self.assertEqual(classes.must_join(book), (("a", "c"), ("a", "e"), ("b", "d"), ("c", "e")))

    def test_great_books(self):
        for book, finest in (
            (FULL, (tuple("abcdefgh"),)), (CIRCLE, (tuple("abcdefgh"),)), (APART, tuple((name,) for name in "abcdefgh")),
            (CHAIN, tuple((name,) for name in "abcdefg")), (BOW, (("a", "b"), ("c", "d"))), (KNOT, (("a", "b", "c"),)),
            (SQUARE, (("a", "b", "c", "d"), ("e",))), (SAME, (("a", "b"), ("c",))),
        ):
            self.assertEqual(classes.finest_right(book), finest)
            self.assertIs(classes.are_right(book, finest), True)
            self.assertEqual(len(classes.must_join(book)), sum(len(some) * (len(some) - 1) // 2 for some in finest))
        for book in GREAT_BOOKS:
            finest = classes.finest_right(book)
            self.assertIs(classes.are_right(book, classes.one_class(book)), True)
            self.assertIs(classes.are_right(book, classes.lone_classes(book)), len(finest) == len(book))
            for some in finest:
                # A group that is taken out of its class alone makes them wrong.
                if len(some) > 1:
                    parted = tuple(sorted([own for own in finest if own != some] + [some[:1], some[1:]]))
                    self.assertIs(classes.are_right(book, parted), False)
                    self.assertTrue(is_split_plain(book, parted, classes.split_round(book, parted)))


def is_split_plain(book, sets, thing):
    if type(thing) is not tuple or not all(type(name) is str for name in thing):
        return False
    return reading.is_plain_round(book, thing) and not within(thing[0::2], sets)


class Split(unittest.TestCase):
    def test_split_round(self):
        for book in BOOKS + SMALL_BOOKS:
            for sets in all_classes(book):
                way = classes.split_round(book, sets)
                if is_right(book, sets):
                    self.assertIsNone(way)
                else:
                    self.assertIn(way, plain_rounds(book))
                    self.assertFalse(within(way[0::2], sets))
                    self.assertIs(classes.is_split_round(book, sets, way), True)

    def test_is_split_round_of_all_rounds(self):
        told = {True: 0, False: 0}
        for book in BOOKS:
            for sets in all_classes(book):
                for way in plain_rounds(book)[:8]:
                    told[within(way[0::2], sets)] += 1
                    self.assertIs(classes.is_split_round(book, sets, way), not within(way[0::2], sets))
        self.assertGreater(min(told.values()), 300)

    def test_bent_ones(self):
        draw = random.Random(91)
        told = {True: 0, False: 0}
        for book in BOOKS[:60] + TOLD_BOOKS:
            sets = draw.choice(all_classes(book))
            for way in plain_rounds(book)[:3]:
                for thing in bent(draw, way):
                    right = is_split_plain(book, sets, thing)
                    told[right] += 1
                    self.assertIs(classes.is_split_round(book, sets, thing), right, thing)
        self.assertGreater(told[False], 1000)
        self.assertGreater(told[True], 30)

    def test_things_of_all_kinds(self):
        book = (("a", ("p", "q", "a", "b")), ("b", ("p", "q", "a", "b")), ("ab", ("ab", "p")))
        for thing in THINGS:
            self.assertIs(classes.is_split_round(book, (("a",), ("ab",), ("b",)), thing), thing == ("a", "p", "b", "q"))
            self.assertIs(classes.is_split_round(book, (("a", "b"), ("ab",)), thing), False)

    def test_a_long_way_round(self):
        # Only the ROUND of all groups is split.
        long = tuple((group, tuple(sorted(pair))) for group, pair in zip("abcdefgh", ("pw", "pq", "qr", "rs", "st", "tu", "uv", "vw")))
        for at in range(8):
            for size in range(1, 8):
                some = tuple(sorted(("abcdefgh" * 2)[at:at + size]))
                rest = tuple(name for name in "abcdefgh" if name not in some)
                sets = tuple(sorted((some, rest)))
                self.assertTrue(is_split_plain(long, sets, classes.split_round(long, sets)))


class ClassRing(unittest.TestCase):
    def test_class_ring(self):
        for book in BOOKS + SMALL_BOOKS[:40]:
            for sets in all_classes(book):
                pair = classes.class_ring(book, sets)
                if is_right(book, sets):
                    self.assertIsNone(pair)
                else:
                    self.assertTrue(is_class_ring(book, sets, pair), (book, sets, pair))
                    self.assertIs(classes.is_class_ring(book, sets, pair), True)

    def test_all_runs_and_rings(self):
        told = {True: 0, False: 0}
        for book in SMALL_BOOKS[::4] + (RING, BOW, SQUARE):
            for run in one_letter_runs(book)[:24]:
                for ring in reading.rings(run):
                    for sets in all_classes(book):
                        right = keeps_by_weaving(sets, run)
                        told[right] += 1
                        for turned in reading.turns(ring)[:2]:
                            self.assertIs(classes.is_class_ring(book, sets, (run, turned)), right)
        self.assertGreater(min(told.values()), 200)

    def test_bent_ones(self):
        draw = random.Random(92)
        told = {True: 0, False: 0}
        for book in BOOKS[::3] + TOLD_BOOKS:
            sets = draw.choice(all_classes(book))
            pair = classes.class_ring(book, sets)
            for thing in bent(draw, pair) if pair is not None else ():
                right = is_class_ring(book, sets, thing)
                told[right] += 1
                self.assertIs(classes.is_class_ring(book, sets, thing), right, thing)
        self.assertGreater(told[False], 1500)
        self.assertGreater(told[True], 30)

    def test_runs_with_other_numbers_of_letters(self):
        book = (("a", ("p", "q")), ("b", ("p", "q")))
        clash = (("p", (("a", 1), ("b", 1))), ("q", (("b", 1), ("a", 1))))
        more = tuple((person, row + (("a", 2),)) for person, row in clash)
        for run, right in ((clash, True), (more, False)):
            self.assertIs(classes.is_class_ring(book, (("a",), ("b",)), (run, (("a", 1), ("b", 1)))), right)
            self.assertIs(classes.is_class_ring(book, (("a", "b"),), (run, (("a", 1), ("b", 1)))), False)
        wide = book + (("c", ("p",)),)
        self.assertIs(classes.is_class_ring(wide, (("a",), ("b",), ("c",)), (clash, (("a", 1), ("b", 1)))), False)

    def test_things_of_all_kinds(self):
        sets = (("a", "b"), ("c",))
        run, ring = classes.class_ring(RING, sets)
        for thing in THINGS:
            for bent_thing in (thing, (run, thing), (thing, ring), (run, ring, thing), (run, (thing,)), (run, ring + (thing,))):
                self.assertIs(classes.is_class_ring(RING, sets, bent_thing), False)

    def test_great_books(self):
        draw = random.Random(93)
        some = 0
        for book in GREAT_BOOKS:
            table = {}
            for group in names_of(book):
                table.setdefault(draw.randrange(3), []).append(group)
            for sets in (classes.lone_classes(book), tuple(sorted(tuple(own) for own in table.values()))):
                pair = classes.class_ring(book, sets)
                self.assertIs(pair is None, classes.are_right(book, sets))
                if pair is not None:
                    some += 1
                    self.assertTrue(is_class_ring(book, sets, pair))
                    self.assertIs(classes.is_class_ring(book, sets, pair), True)
        self.assertGreater(some, 10)


class Coarser(unittest.TestCase):
    def test_against_all_classes(self):
        names = "abcde"
        for many in range(1, 6):
            every = reading.partings(list(names[:many]))
            for one, other in itertools.product(every, repeat=2):
                self.assertIs(classes.is_coarser(one, other), coarser(one, other))

    def test_joined_and_common(self):
        for many in range(1, 5):
            every = reading.partings(list("abcd"[:many]))
            for one, other in itertools.product(every, repeat=2):
                over = [sets for sets in every if coarser(sets, one) and coarser(sets, other)]
                under = [sets for sets in every if coarser(one, sets) and coarser(other, sets)]
                most, fewest = max(len(sets) for sets in over), min(len(sets) for sets in under)
                self.assertEqual([classes.joined_classes(one, other)], [sets for sets in over if len(sets) == most])
                self.assertEqual([classes.common_classes(one, other)], [sets for sets in under if len(sets) == fewest])

    def test_of_two_right_ones_both_are_right(self):
        draw = random.Random(94)
        for book in BOOKS:
            rights = right_classes(book)
            for _ in range(5):
                one, other = draw.choice(rights), draw.choice(rights)
                self.assertIn(classes.joined_classes(one, other), rights)
                self.assertIn(classes.common_classes(one, other), rights)

    def test_eight_groups(self):
        one = (("a", "b"), ("c", "d"), ("e", "f"), ("g", "h"))
        other = (("a", "h"), ("b", "c"), ("d", "e"), ("f", "g"))
        self.assertEqual(classes.joined_classes(one, other), (tuple("abcdefgh"),))
        self.assertEqual(classes.common_classes(one, other), tuple((name,) for name in "abcdefgh"))
        third = (("a",), ("b", "c", "d", "e"), ("f", "g", "h"))
        self.assertEqual(classes.joined_classes(other, third), (("a", "f", "g", "h"), ("b", "c", "d", "e")))
        self.assertEqual(classes.common_classes(one, third), (("a",), ("b",), ("c", "d"), ("e",), ("f",), ("g", "h")))


class Mended(unittest.TestCase):
    def test_mended(self):
        for book in BOOKS:
            rights = right_classes(book)
            for sets in all_classes(book):
                over = [other for other in rights if coarser(other, sets)]
                most = max(len(other) for other in over)
                self.assertEqual([classes.mended(book, sets)], [other for other in over if len(other) == most])

    def least_joins(self, book, sets):
        pairs = list(itertools.combinations(names_of(book), 2))
        for many in range(len(book)):
            for some in itertools.combinations(pairs, many):
                after = sets
                for pair in some:
                    after = joined(after, pair)
                if is_right(book, after):
                    return some

    def test_joins_against_all_tuples_of_pairs(self):
        draw = random.Random(95)
        sizes = []
        for book in BOOKS:
            every = all_classes(book)
            for sets in every if len(book) < 5 else draw.sample(every, 12) + [every[0]]:
                least = self.least_joins(book, sets)
                sizes.append(len(least))
                self.assertEqual(classes.fewest_joins(book, sets), len(least))
                self.assertEqual(classes.least_joins(book, sets), least)
        for size in range(5):
            self.assertGreater(sizes.count(size), 10)

    def test_great_books(self):
        pairs = tuple(("a", name) for name in "bcdefgh")
        for book in (FULL, CIRCLE):
            self.assertEqual(classes.fewest_joins(book, classes.lone_classes(book)), 7)
            self.assertEqual(classes.least_joins(book, classes.lone_classes(book)), pairs)
            sets = (("a", "h"), ("b", "c"), ("d",), ("e", "f", "g"))
            self.assertEqual(classes.least_joins(book, sets), (("a", "b"), ("a", "d"), ("a", "e")))
            self.assertEqual(classes.mended(book, sets), (tuple("abcdefgh"),))
        for book in (APART, CHAIN):
            self.assertEqual(classes.fewest_joins(book, classes.lone_classes(book)), 0)
            self.assertEqual(classes.least_joins(book, classes.lone_classes(book)), ())
            self.assertEqual(classes.mended(book, classes.lone_classes(book)), classes.lone_classes(book))
        # a and g are in one class already: so joining d with one of them is enough for both.
        two = (("a", ("p", "q")), ("d", ("p", "q", "r", "s")), ("g", ("r", "s")))
        self.assertEqual(classes.least_joins(two, (("a", "g"), ("d",))), (("a", "d"),))
        self.assertEqual(classes.least_joins(two, (("a",), ("d", "g"))), (("a", "d"),))


class Numbered(Refusing):
    def test_against_all_right_classes(self):
        for book in BOOKS + SMALL_BOOKS:
            rights = right_classes(book)
            self.assertEqual(rights, sorted(rights))
            self.assertEqual(classes.how_many_right(book), len(rights))
            for number, sets in enumerate(rights):
                self.assertEqual(classes.nth_right(book, number), sets)
            for sets in all_classes(book):
                self.assertEqual(classes.number_of_right(book, sets), rights.index(sets) if sets in rights else None)

    def test_no_number(self):
        for book in BOOKS + GREAT_BOOKS:
            many = classes.how_many_right(book)
            for number in (-1, -2, -many, -GREAT, many, many + 1, GREAT, GREAT - 1):
                self.refused(NoNumber, {"number": number}, classes.nth_right, book, number)
            classes.nth_right(book, many - 1)

    def test_eight_groups(self):
        names = list("abcdefgh")
        every = reading.partings(names)
        self.assertEqual(classes.how_many_right(APART), 4140)
        self.assertEqual(len(every), 4140)
        for number in list(range(0, 4140, 41)) + [1, 2, 4138, 4139]:
            self.assertEqual(classes.nth_right(APART, number), every[number])
            self.assertEqual(classes.number_of_right(APART, every[number]), number)
        for book in (FULL, CIRCLE):
            self.assertEqual(classes.how_many_right(book), 1)
            self.assertEqual(classes.nth_right(book, 0), (tuple(names),))
            self.assertEqual(classes.number_of_right(book, (tuple(names),)), 0)
            self.assertIsNone(classes.number_of_right(book, classes.lone_classes(book)))

    def test_a_right_class_of_several_among_others(self):
        # b and d are one for all right CLASSES: so the order is not that of the numbers of classes.
        book = (("a", ("x",)), ("b", ("p", "q")), ("c", ("y",)), ("d", ("p", "q")), ("e", ("z",)))
        rights = right_classes(book)
        self.assertEqual(len(rights), 15)
        self.assertEqual([classes.nth_right(book, number) for number in range(15)], rights)


class Agree(unittest.TestCase):
    def test_against_all_runs(self):
        told = {True: 0, False: 0}
        for book in SMALL_BOOKS:
            pairs = list(itertools.combinations([(group, 1) for group in names_of(book)], 2))
            runs = one_letter_runs(book)
            apart = [run for run in runs if any(reading.disagree(run, one, other) for one, other in pairs)]
            for sets in all_classes(book):
                right = not any(keeps_by_weaving(sets, run) for run in apart)
                told[right] += 1
                self.assertIs(classes.pairs_agree(book, sets), right)
        self.assertGreater(min(told.values()), 100)

    def test_by_pairs_of_people(self):
        for book in BOOKS + GREAT_BOOKS:
            table = reading.unordered(book)
            every = all_classes(book) if len(book) < 6 else [classes.lone_classes(book), classes.finest_right(book)]
            for sets in every:
                right = all(within(pair, sets) for pair in itertools.combinations(sorted(table), 2)
                            if len(table[pair[0]] & table[pair[1]]) > 1)
                self.assertIs(classes.pairs_agree(book, sets), right)

    def test_told_ones(self):
        self.assertIs(classes.pairs_agree(ROW, classes.lone_classes(ROW)), True)
        self.assertIs(classes.pairs_agree(FULL, classes.lone_classes(FULL)), False)
        self.assertIs(classes.pairs_agree(FULL, classes.one_class(FULL)), True)
        self.assertIs(classes.pairs_agree(CIRCLE, classes.lone_classes(CIRCLE)), True)


if __name__ == "__main__":
    unittest.main()
