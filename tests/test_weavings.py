"""[6]: weavings of runs."""

import itertools
import math
import random
import unittest

import reading
from drawing import APART, CHAIN, CIRCLE, FULL, THINGS
from drawing import all_letters, drawn_book, drawn_books, drawn_numbers, drawn_row, drawn_run
from drawing import thick_books, thin_books
from orderrings import runs
from orderrings.errors import NoNumber

BOOKS = drawn_books(41, 60) + thick_books(42, 30) + thin_books(48, 60)
GREAT_BOOKS = (FULL, APART, CIRCLE, CHAIN)
GREAT = 10 ** 30
CLASH = (("p", (("a", 1), ("b", 1))), ("q", (("b", 1), ("a", 1))))


def drawn_runs(seed, books, most):
    draw = random.Random(seed)
    return [drawn_run(draw, book, drawn_numbers(draw, book, most)) for book in books]


RUNS = drawn_runs(43, BOOKS * 3, 6) + [CLASH]
GREAT_RUNS = drawn_runs(44, GREAT_BOOKS * 4, 16)


def drawn_weaving(draw, run):
    """Some WEAVING of a RUN that has one."""
    left = [list(row) for _, row in run if row]
    found = []
    while left:
        free = [row[0] for row in left if all(row[0] not in other[1:] for other in left)]
        letter = draw.choice(free)
        found.append(letter)
        left = [row[1:] if row[0] == letter else row for row in left]
        left = [row for row in left if row]
    return tuple(found)


class IsWeaving(unittest.TestCase):
    def test_right_and_bent_ones(self):
        draw = random.Random(45)
        told = {True: 0, False: 0}
        for run in RUNS:
            letters = tuple(reading.letters_in(run))
            things = [drawn_row(draw, letters) for _ in range(10)] + [letters, letters[::-1], list(letters), ()]
            if reading.has_weaving(run):
                right = drawn_weaving(draw, run)
                things += [right, right[1:], right[:-1], right + right[-1:], right + (("zz", 1),), list(right)]
                for at, (group, number) in enumerate(right):
                    for letter in ([group, number], (group, bool(number)), (group, number + 1), (group, str(number)), (group,),
                                   (group, number, number), None, group, right[0], ("zz", 1), (1, group), (group, 0)):
                        things.append(right[:at] + (letter,) + right[at + 1:])
                    things.append(right[:at] + right[at + 1:at + 2] + right[at:at + 1] + right[at + 2:])
            for thing in things:
                expected = reading.is_weaving(run, thing)
                told[expected] += 1
                self.assertIs(runs.is_weaving(run, thing), expected, (run, thing))
        self.assertGreater(min(told.values()), 300)

    def test_true_is_no_number(self):
        run = (("p", (("a", 1),)),)
        self.assertIs(runs.is_weaving(run, (("a", 1),)), True)
        self.assertIs(runs.is_weaving(run, (("a", True),)), False)

    def test_things_of_all_kinds(self):
        for run in ((("p", (("a", 1),)),), (("p", ()),), (("p", (("a", 1), ("a", 2))),)):
            for thing in THINGS:
                self.assertIs(runs.is_weaving(run, thing), reading.is_weaving(run, thing), thing)
                for bent in ((thing,), (("a", thing),), ((thing, 1),), (("a", 1), thing)):
                    self.assertIs(runs.is_weaving(run, bent), reading.is_weaving(run, bent), bent)

    def test_long_ones(self):
        row = tuple((group, number) for number in range(1, 9) for group in "abc")
        run = (("p", row), ("q", row))
        self.assertIs(runs.is_weaving(run, row), True)
        self.assertIs(runs.is_weaving(run, row[:-2] + row[:-3:-1]), False)
        self.assertIs(runs.is_weaving(run, row * 500), False)


class Weavings(unittest.TestCase):
    def test_against_all_weavings(self):
        some = 0
        for run in RUNS:
            every = reading.weavings(run)
            some += len(every) > 5
            self.assertEqual(runs.weaving(run), every[0] if every else None)
            self.assertEqual(runs.how_many_weavings(run), len(every))
            for number, letters in list(enumerate(every))[:60]:
                self.assertEqual(runs.nth_weaving(run, number), letters)
                self.assertEqual(runs.number_of_weaving(run, letters), number)
            for number in (-1, -2, -GREAT, len(every), len(every) + 1, GREAT):
                with self.assertRaises(NoNumber) as caught:
                    runs.nth_weaving(run, number)
                self.assertEqual(vars(caught.exception), {"number": number})
        self.assertGreater(some, 40)

    def test_enough_rings_are_drawn(self):
        rings = [reading.has_ring(run) for run in RUNS]
        self.assertGreater(rings.count(True), 30)
        self.assertEqual(rings, [not reading.has_weaving(run) for run in RUNS])

    def test_none(self):
        self.assertIsNone(runs.weaving(CLASH))
        self.assertEqual(runs.how_many_weavings(CLASH), 0)
        # The RING is behind LETTERS that can come.
        late = (("p", (("c", 1), ("a", 1), ("b", 1))), ("q", (("c", 1), ("b", 1), ("a", 1))))
        self.assertIsNone(runs.weaving(late))
        self.assertEqual(runs.how_many_weavings(late), 0)

    def test_no_letters(self):
        for run in ((("p", ()),), (("p", ()), ("q", ()))):
            self.assertEqual(runs.weaving(run), ())
            self.assertEqual(runs.how_many_weavings(run), 1)
            self.assertEqual(runs.nth_weaving(run, 0), ())
            self.assertEqual(runs.number_of_weaving(run, ()), 0)
            self.assertIs(runs.is_weaving(run, ()), True)
            self.assertIs(runs.is_weaving(run, []), False)

    def test_sixteen_letters(self):
        draw = random.Random(46)
        books = GREAT_BOOKS + tuple(drawn_book(draw, 8, 8) for _ in range(8))
        woven = []
        for book in books:
            numbers = [16 // len(book)] * len(book)
            woven.append(runs.run_from(book, drawn_row(draw, all_letters(book, numbers))))
        for run in GREAT_RUNS + woven:
            many = runs.how_many_weavings(run)
            self.assertEqual(many, reading.many_weavings(run))
            self.assertEqual(many > 0, reading.has_weaving(run))
            for number in sorted({0, many // 3, many // 2, many - 1}) if many else ():
                letters = runs.nth_weaving(run, number)
                self.assertTrue(reading.is_weaving(run, letters))
                self.assertEqual(runs.number_of_weaving(run, letters), number)
            if many:
                self.assertEqual(runs.weaving(run), runs.nth_weaving(run, 0))
                one, other = drawn_weaving(draw, run), drawn_weaving(draw, run)
                low, high = runs.number_of_weaving(run, one), runs.number_of_weaving(run, other)
                self.assertEqual(low < high, one < other)
                self.assertEqual(runs.nth_weaving(run, low), one)

    def test_all_apart(self):
        run = tuple((person, ((group, 1), (group, 2))) for group, (person,) in APART)
        self.assertEqual(runs.how_many_weavings(run), math.factorial(16) // 2 ** 8)
        last = tuple((group, number) for group in "hgfedcba" for number in (1, 2))
        self.assertEqual(runs.number_of_weaving(run, last), math.factorial(16) // 2 ** 8 - 1)
        self.assertEqual(runs.nth_weaving(run, math.factorial(16) // 2 ** 8 - 1), last)

    def test_24_letters(self):
        draw = random.Random(47)
        for book in GREAT_BOOKS + tuple(drawn_book(draw, 8, 8) for _ in range(10)):
            letters = drawn_row(draw, all_letters(book, drawn_numbers(draw, book, 24)))
            run = runs.run_from(book, letters)
            least = runs.weaving(run)
            self.assertTrue(reading.is_weaving(run, least))
            self.assertTrue(runs.is_weaving(run, least))
            self.assertLessEqual(least, letters)
            mixed = drawn_run(draw, book, drawn_numbers(draw, book, 24))
            self.assertEqual(runs.weaving(mixed) is None, reading.has_ring(mixed))

    def test_least_of_all(self):
        # c, the greatest, has to come ahead of a for p: so b comes first.
        run = (("p", (("c", 1), ("a", 1))), ("q", (("b", 1),)))
        self.assertEqual(runs.weaving(run), (("b", 1), ("c", 1), ("a", 1)))
        for one, other in itertools.permutations((("a", 1), ("b", 1), ("b", 2)), 2):
            if one[0] != other[0]:
                self.assertIs(runs.is_weaving((("p", (one,)), ("q", (other,))), (one, other)), True)


if __name__ == "__main__":
    unittest.main()
