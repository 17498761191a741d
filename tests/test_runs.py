"""[6]: runs."""

import itertools
import math
import random
import unittest

import reading
from checking import Refusing
from drawing import APART, CHAIN, CIRCLE, FULL, RING, ROW, SAME, THINGS, TOLD_BOOKS
from drawing import all_letters, bent_runs, drawn_book, drawn_books, drawn_numbers, drawn_row, drawn_run, small_numbers
from drawing import thick_books
from orderrings import runs, webs
from orderrings.errors import NoNumber, Unfit

BOOKS = drawn_books(21, 40, 3, 3) + thick_books(22, 15)
GREAT = 10 ** 30


class IsRun(unittest.TestCase):
    def test_right_ones(self):
        draw = random.Random(23)
        for book in BOOKS:
            for run in reading.runs(book, small_numbers(draw, book, 300)):
                self.assertIs(runs.is_run(book, run), True)
        for book in (FULL, APART, CIRCLE, CHAIN):
            for _ in range(10):
                run = drawn_run(draw, book, drawn_numbers(draw, book, 24))
                self.assertIs(runs.is_run(book, run), True)

    def test_bent_ones(self):
        draw = random.Random(24)
        told = {True: 0, False: 0}
        for book in BOOKS * 3:
            run = drawn_run(draw, book, drawn_numbers(draw, book, 6))
            for thing in bent_runs(draw, run):
                right = reading.is_run(book, thing)
                told[right] += 1
                self.assertIs(runs.is_run(book, thing), right, thing)
        self.assertGreater(min(told.values()), 300)

    def test_members_get_all_letters_of_their_groups(self):
        one, two = (("b", 1),), (("b", 1), ("b", 2))
        book = (("b", ("p", "q")),)
        for first, second in itertools.product((one, two, ()), repeat=2):
            self.assertIs(runs.is_run(book, (("p", first), ("q", second))), first == second)
        for row in ((("b", 2),), (("b", 2), ("b", 1)), (("b", 1), ("b", 1)), (("b", 1), ("b", 3)), (("b", 0), ("b", 1))):
            self.assertIs(runs.is_run(book, (("p", row), ("q", row))), False)
        self.assertIs(runs.is_run(ROW, (("p", (("c", 1),)), ("q", (("c", 1),)), ("r", (("c", 1),)), ("s", (("c", 1),)))), False)
        # True equals 1, but it is no number.
        self.assertIs(runs.is_run(book, (("p", (("b", True),)), ("q", (("b", True),)))), False)

    def test_things_of_all_kinds(self):
        book = (("a", ("p",)),)
        for thing in THINGS:
            self.assertIs(runs.is_run(book, thing), reading.is_run(book, thing), thing)
            for bent in ((("p", thing),), (("p", (thing,)),), ((thing, ()),), (("p", ((thing, 1),)),), (("p", (("a", thing),)),)):
                self.assertIs(runs.is_run(book, bent), reading.is_run(book, bent), bent)

    def test_however_many_letters(self):
        row = tuple((group, number) for number in range(1, 3001) for group in "ab")
        right = (("p", row), ("q", row))
        book = (("a", ("p", "q")), ("b", ("p", "q")))
        self.assertIs(runs.is_run(book, right), True)
        self.assertIs(runs.is_run(book, (("p", row), ("q", row[:-1]))), False)
        self.assertIs(runs.is_run(book, (("p", row), ("q", row[:-1] + (("b", 3001),)))), False)


class Numbered(Refusing):
    def test_against_all_runs(self):
        draw = random.Random(25)
        for book in BOOKS * 2:
            numbers = small_numbers(draw, book, 500)
            every = reading.runs(book, numbers)
            self.assertEqual(every, sorted(every))
            self.assertEqual(runs.how_many_runs(book, numbers), len(every))
            for number, run in enumerate(every):
                self.assertEqual(runs.nth_run(book, numbers, number), run)
                self.assertEqual(runs.number_of_run(book, run), number)
                self.assertEqual(runs.counts_in(book, run), numbers)

    def test_no_number(self):
        draw = random.Random(26)
        for book in BOOKS + (FULL, APART, CIRCLE, CHAIN):
            numbers = drawn_numbers(draw, book, 6)
            many = runs.how_many_runs(book, numbers)
            for number in (-1, -2, -GREAT, -many, many, many + 1, max(many, GREAT)):
                self.refused(NoNumber, {"number": number}, runs.nth_run, book, numbers, number)
            runs.nth_run(book, numbers, 0)
            runs.nth_run(book, numbers, many - 1)
        self.refused(NoNumber, {"number": 1}, runs.nth_run, RING, (0, 0, 0), 1)
        self.assertEqual(runs.nth_run(RING, (0, 0, 0), 0), (("p", ()), ("q", ()), ("r", ())))

    def test_24_letters_8_groups_8_people(self):
        draw = random.Random(27)
        for book in (FULL, CIRCLE, CHAIN, APART) + tuple(drawn_book(draw, 8, 8) for _ in range(6)):
            numbers = [3] * len(book) if draw.random() < 0.5 else drawn_numbers(draw, book, 24)
            many = runs.how_many_runs(book, numbers)
            self.assertEqual(many, reading.many_runs(book, numbers))
            places = [0, many - 1] + [draw.randrange(many) for _ in range(5)]
            places += [number for number in (GREAT, GREAT - 1, 7) if number < many]
            told = [runs.nth_run(book, numbers, number) for number in sorted(set(places))]
            self.assertEqual(told, sorted(told))
            for number, run in zip(sorted(set(places)), told):
                self.assertTrue(reading.is_run(book, run))
                self.assertEqual(runs.number_of_run(book, run), number)
                self.assertEqual(runs.counts_in(book, run), tuple(numbers))
            least = tuple((person, tuple(letter for letter in all_letters(book, numbers)
                                         if person in reading.unordered(book)[letter[0]])) for person in reading.crowd(book))
            self.assertEqual(told[0], least)

    def test_drawn_runs_of_great_books(self):
        draw = random.Random(28)
        for book in (FULL, CIRCLE, CHAIN, APART) * 5:
            numbers = drawn_numbers(draw, book, 24)
            run = drawn_run(draw, book, numbers)
            self.assertEqual(runs.nth_run(book, numbers, runs.number_of_run(book, run)), run)

    def test_counts_of_up_to_60(self):
        sixty = math.factorial(480) // math.factorial(60) ** 8
        self.assertEqual(runs.how_many_runs(FULL, (60,) * 8), sixty ** 8)
        self.assertEqual(runs.how_many_runs(APART, (60,) * 8), 1)
        self.assertEqual(runs.how_many_runs(CIRCLE, (60,) * 8), math.comb(120, 60) ** 8)
        self.assertEqual(runs.how_many_runs(CHAIN, (60, 59, 0, 1, 0, 60, 60)),
                         math.comb(119, 60) * math.comb(120, 60))
        draw = random.Random(29)
        for book in BOOKS:
            numbers = tuple(draw.randint(0, 60) for _ in book)
            self.assertEqual(runs.how_many_runs(book, numbers), reading.many_runs(book, numbers))

    def test_counts_in(self):
        draw = random.Random(30)
        for book in BOOKS + (FULL, APART, CIRCLE, CHAIN):
            numbers = drawn_numbers(draw, book, 24)
            self.assertEqual(runs.counts_in(book, drawn_run(draw, book, numbers)), numbers)


class Seen(unittest.TestCase):
    def test_seen(self):
        draw = random.Random(31)
        for book in BOOKS * 2 + (FULL, CIRCLE):
            run = drawn_run(draw, book, drawn_numbers(draw, book, 6))
            expected = reading.seen_pairs(run)
            self.assertEqual(runs.seen_pairs(run), tuple(expected))
            for one, other in itertools.product(reading.letters_in(run), repeat=2):
                self.assertIs(runs.is_seen_ahead(run, one, other), (one, other) in expected)

    def test_in_one_row_alone(self):
        run = (("p", (("a", 1), ("b", 1))), ("q", (("b", 1), ("c", 1))))
        self.assertIs(runs.is_seen_ahead(run, ("a", 1), ("c", 1)), False)
        self.assertIs(runs.is_seen_ahead(run, ("b", 1), ("c", 1)), True)
        self.assertEqual(runs.seen_pairs(run), ((("a", 1), ("b", 1)), (("b", 1), ("c", 1))))
        self.assertEqual(runs.seen_pairs((("p", ()),)), ())


class Made(Refusing):
    def test_run_from(self):
        draw = random.Random(32)
        for book in BOOKS + (FULL, CIRCLE, APART, CHAIN):
            for _ in range(4):
                letters = drawn_row(draw, all_letters(book, drawn_numbers(draw, book, draw.choice((4, 24)))))
                expected = tuple(
                    (person, tuple(letter for letter in letters if person in reading.unordered(book)[letter[0]]))
                    for person in reading.crowd(book)
                )
                run = runs.run_from(book, letters)
                self.assertEqual(run, expected)
                self.assertTrue(runs.is_run(book, run))
                self.assertTrue(reading.is_weaving(run, letters))
                self.assertTrue(runs.is_weaving(run, letters))

    def test_run_from_unfit(self):
        for letters in (
            (("x", 1),), (("a", 1), ("x", 1)), (("p", 1),), (("a", 2),), (("a", 2), ("a", 1)), (("a", 1), ("a", 1)),
            (("a", 1), ("a", 3)), (("a", GREAT),), (("b", 1), ("a", 1), ("b", 3), ("b", 2)), (("b", 1), ("a", 2)),
            (("a", 1), ("a", 2), ("b", 2)), (("aa", 1),),
        ):
            self.refused(Unfit, {}, runs.run_from, RING, letters)
        self.assertEqual(runs.run_from(RING, ()), (("p", ()), ("q", ()), ("r", ())))

    def test_run_from_drawn_letters(self):
        draw = random.Random(33)
        told = {True: 0, False: 0}
        for book in BOOKS * 10:
            pool = [group for group, _ in book] * 3 + ["x"]
            letters = tuple((draw.choice(pool), draw.randint(1, 2)) for _ in range(draw.randint(0, 3)))
            right = {group for group, _ in letters} <= set(reading.unordered(book)) and all(
                [number for name, number in letters if name == group] == list(range(1, 1 + len(
                    [1 for name, _ in letters if name == group]))) for group, _ in letters)
            told[right] += 1
            if right:
                self.assertTrue(reading.is_weaving(runs.run_from(book, letters), letters) or not letters)
            else:
                self.refused(Unfit, {}, runs.run_from, book, letters)
        self.assertGreater(min(told.values()), 100)

    def test_run_behind(self):
        draw = random.Random(34)
        told = {True: 0, False: 0}
        for book in BOOKS * 4 + (FULL, CIRCLE, CHAIN, APART):
            first, second = [drawn_run(draw, book, drawn_numbers(draw, book, 6)) for _ in range(2)]
            many = {entry[0]: number for entry, number in zip(book, runs.counts_in(book, first))}
            expected = tuple(
                (person, row + tuple((group, number + many[group]) for group, number in later))
                for (person, row), (_, later) in zip(first, second)
            )
            behind = runs.run_behind(first, second)
            self.assertEqual(behind, expected)
            self.assertTrue(runs.is_run(book, behind))
            ring = reading.has_ring(first) or reading.has_ring(second)
            told[ring] += 1
            self.assertIs(runs.weaving(behind) is None, ring)
        self.assertGreater(min(told.values()), 20)

    def test_turned_run(self):
        draw = random.Random(35)
        for book in BOOKS * 4 + (FULL, CIRCLE, CHAIN, APART):
            numbers = drawn_numbers(draw, book, 6)
            run = drawn_run(draw, book, numbers)
            many = {entry[0]: number for entry, number in zip(book, numbers)}
            expected = tuple(
                (person, tuple((group, many[group] + 1 - number) for group, number in reversed(row))) for person, row in run
            )
            turned = runs.turned_run(run)
            self.assertEqual(turned, expected)
            self.assertTrue(runs.is_run(book, turned))
            self.assertEqual(runs.turned_run(turned), run)
            self.assertEqual(runs.weaving(turned) is None, reading.has_ring(run))

    def test_first_letters(self):
        draw = random.Random(36)
        for book in BOOKS * 4 + (FULL, CIRCLE, CHAIN, APART):
            run = drawn_run(draw, book, drawn_numbers(draw, book, 8))
            numbers = tuple(draw.choice((0, 0, 1, 1, 2, 3, 50, GREAT)) for _ in book)
            most = {entry[0]: number for entry, number in zip(book, numbers)}
            expected = tuple(
                (person, tuple(letter for letter in row if letter[1] <= most[letter[0]])) for person, row in run
            )
            left = runs.first_letters(book, run, numbers)
            self.assertEqual(left, expected)
            self.assertTrue(runs.is_run(book, left))
            if runs.weaving(left) is None:
                self.assertTrue(reading.has_ring(run))
            self.assertEqual(runs.first_letters(book, run, runs.counts_in(book, run)), run)
            self.assertEqual(runs.first_letters(book, run, (0,) * len(book)), tuple((person, ()) for person, _ in run))


class Woven(unittest.TestCase):
    def test_against_all_runs(self):
        draw = random.Random(37)
        fewer = 0
        for book in BOOKS * 6 + TOLD_BOOKS * 8:
            numbers = small_numbers(draw, book, 1500)
            every = [run for run in reading.runs(book, numbers) if reading.has_weaving(run)]
            self.assertEqual(runs.how_many_woven(book, numbers), len(every), (book, numbers))
            fewer += len(every) < reading.many_runs(book, numbers)
        self.assertGreater(fewer, 50)

    def test_seven_letters(self):
        for numbers in ((1, 1, 1, 1, 1, 1, 1, 0), (0, 2, 0, 3, 1, 1, 0, 0), (7, 0, 0, 0, 0, 0, 0, 0), (0,) * 8):
            rows = math.factorial(sum(numbers))
            for number in numbers:
                rows //= math.factorial(number)
            # In FULL everybody has to get all LETTERS in one order.
            self.assertEqual(runs.how_many_woven(FULL, numbers), rows)
            self.assertEqual(runs.how_many_woven(APART, numbers), 1)
        # Each of eight people sees one of two LETTERS ahead: all but the two ways to go round.
        self.assertEqual(runs.how_many_woven(RING, (1, 1, 1)), 6)
        six = tuple((group, tuple(sorted(pair))) for group, pair in zip("abcdef", ("pq", "qr", "rs", "st", "tu", "pu")))
        self.assertEqual(runs.how_many_woven(six, (1,) * 6), 2 ** 6 - 2)
        self.assertEqual(runs.how_many_woven(CIRCLE, (1,) * 7 + (0,)), 2 ** 6)

    def test_guarantee(self):
        draw = random.Random(38)
        for book in BOOKS + tuple(drawn_book(draw, 8, 8) for _ in range(30)) + (FULL, APART, CIRCLE, CHAIN):
            way = webs.shortest_round(book)
            for _ in range(3):
                numbers = drawn_numbers(draw, book, 7)
                if way is None:
                    self.assertEqual(runs.how_many_woven(book, numbers), runs.how_many_runs(book, numbers))
            if way is not None:
                numbers = tuple(1 if group in way[0::2] else 0 for group, _ in book)
                self.assertLess(runs.how_many_woven(book, numbers), runs.how_many_runs(book, numbers))

    def test_names_of_groups_and_people_alike(self):
        self.assertEqual(runs.how_many_woven(SAME, (1, 1, 1)), 4)
        self.assertEqual(runs.how_many_runs(SAME, (1, 1, 1)), 8)


if __name__ == "__main__":
    unittest.main()
