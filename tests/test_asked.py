"""[15]: hidden orderers, against all right classes, all answers, all classes and all runs of small books."""

import functools
import itertools
import random
import unittest

import reading
from checking import Refusing
from drawing import APART, BOW, CHAIN, CIRCLE, FULL, KNOT, LONE, NAMES, RING, ROW, SAME, SQUARE, THINGS, TOLD_BOOKS
from drawing import bent, bent_runs, circle_books, drawn_book, drawn_books, drawn_numbers, drawn_run, thick_books, thin_books
from drawing import wild_run
from orderrings import asked
from orderrings.errors import NoGroup, Unfit

BOOKS = drawn_books(301, 50) + thick_books(302, 15) + thin_books(303, 40) + circle_books(304, 25)
SMALL_BOOKS = tuple(book for book in BOOKS + drawn_books(305, 40, 4, 4) if len(book) < 5)
GREAT_BOOKS = (FULL, APART, CIRCLE, CHAIN) + tuple(drawn_book(random.Random(seed), 8, 8) for seed in range(3050, 3065))
# The book of the examples: a and b surely share.
TWO = (("a", ("p", "q")), ("b", ("p", "q")), ("c", ("q", "r")), ("d", ("r",)))
FIVE = tuple((group, (person,)) for group, person in zip("abcde", "pqrst"))


def names_of(book):
    return [group for group, _ in book]


def all_pairs(book):
    return list(itertools.combinations(names_of(book), 2))


@functools.lru_cache(maxsize=None)
def plain_rounds(book):
    return reading.rounds(book) if len(book) < 6 else reading.grown_rounds(book)


@functools.lru_cache(maxsize=None)
def right_classes(book):
    """All right CLASSES, ascending: each ROUND has all its groups in one class."""
    stops = [set(way[0::2]) for way in plain_rounds(book)]
    return [sets for sets in reading.partings(names_of(book)) if all(any(way <= set(some) for some in sets) for way in stops)]


def in_one(sets, pair):
    return any(set(pair) <= set(some) for some in sets)


def answer_so(sets, answers):
    return all(in_one(sets, (one, other)) is same for one, other, same in answers)


def answering(book, answers):
    return [sets for sets in right_classes(book) if answer_so(sets, answers)]


def drawn_answers(draw, book):
    """ANSWERS as some CLASSES tell them, right or not, or as it comes."""
    pairs = draw.sample(all_pairs(book), draw.randint(0, min(5, len(all_pairs(book)))))
    sets = draw.choice(right_classes(book)) if draw.random() < 0.7 else draw.choice(reading.partings(names_of(book)))
    wrong = draw.random() < 0.3
    return tuple(sorted(pair + (draw.random() < 0.5 if wrong else in_one(sets, pair),) for pair in pairs))


def is_answers(book, thing):
    if type(thing) is not tuple or any(type(told) is not tuple or len(told) != 3 for told in thing):
        return False
    for one, other, same in thing:
        if type(one) is not str or type(other) is not str or type(same) is not bool:
            return False
        if one not in names_of(book) or other not in names_of(book) or one >= other:
            return False
    pairs = [told[:2] for told in thing]
    return pairs == sorted(set(pairs)) and list(thing) == sorted(thing)


def fewest_asks(book, every):
    """How many pairs must be asked at the most, chosen as well as can be, until just one of these CLASSES is left."""
    told = [sum(1 << at for at, sets in enumerate(every) if in_one(sets, pair)) for pair in all_pairs(book)]
    known = {}

    def asks(left):
        if left not in known:
            both = [(left & yes, left & ~yes) for yes in told if left & yes and left & ~yes]
            known[left] = min((1 + max(asks(yes), asks(no)) for yes, no in both), default=0)
        return known[left]

    return asks((1 << len(every)) - 1)


def keeps(book, run, sets):
    """Whether the RUN keeps these CLASSES."""
    return all(reading.has_weaving(reading.cut_rows(run, lambda letter: letter[0] in some)) for some in sets)


def runs_to_one(book):
    """ALL RUNS with at most one LETTER of each group."""
    return [run for numbers in itertools.product((0, 1), repeat=len(book)) for run in reading.runs(book, numbers)]


def drawn_pairs(seed, books, most):
    """Pairs (BOOK, RUN)."""
    draw = random.Random(seed)
    return [(book, draw.choice((drawn_run, wild_run))(draw, book, drawn_numbers(draw, book, most))) for book in books]


class IsAnswers(unittest.TestCase):
    def test_drawn_ones(self):
        draw = random.Random(306)
        for book in BOOKS:
            for _ in range(6):
                answers = drawn_answers(draw, book)
                self.assertIs(asked.is_answers(book, answers), True)
                self.assertIs(asked.is_answers(book, list(answers)), False)
                self.assertIs(asked.is_answers(book, answers[::-1]), len(answers) < 2)
                for one, other, same in answers:
                    both = tuple(sorted(set(answers) | {(one, other, not same)}))
                    self.assertIs(asked.is_answers(book, both), False)
                    self.assertIs(asked.is_answers(book, ((other, one, same),)), False)
                    self.assertIs(asked.is_answers(book, ((one, other, int(same)),)), False)
                    self.assertIs(asked.is_answers(book, ((one, one, same),)), False)

    def test_bent_ones(self):
        draw = random.Random(307)
        count = {True: 0, False: 0}
        for book in BOOKS:
            for thing in bent(draw, drawn_answers(draw, book)):
                right = is_answers(book, thing)
                count[right] += 1
                self.assertIs(asked.is_answers(book, thing), right, thing)
        self.assertGreater(count[False], 3000)
        self.assertGreater(count[True], 100)

    def test_things_of_all_kinds(self):
        for thing in THINGS:
            for bent_thing in (thing, (thing,), (("a", "b", True), thing), (("a", "b", thing),), (("a", thing, True),),
                               ((thing, "b", True),), (("a", "b", True, thing),)):
                self.assertIs(asked.is_answers(RING, bent_thing), is_answers(RING, bent_thing))
        self.assertIs(asked.is_answers(LONE, ()), True)
        self.assertIs(asked.is_answers(RING, (("a", "b", False), ("a", "c", True), ("b", "c", False))), True)


class Answers(Refusing):
    def each(self):
        draw = random.Random(308)
        for book in BOOKS * 2 + (TWO, ROW) * 10 + (FIVE,) * 10:
            yield book, drawn_answers(draw, book)
            yield book, ()

    def test_against_all_right_classes(self):
        count = {True: 0, False: 0}
        for book, answers in self.each():
            every = answering(book, answers)
            count[bool(every)] += 1
            self.assertIs(asked.can_answer(book, answers), bool(every), (book, answers))
            if not every:
                for call in (asked.how_many_answer, asked.surely_one, asked.surely_two, asked.still_hidden, asked.asks_left):
                    self.refused(Unfit, {}, call, book, answers)
                continue
            one = tuple(pair for pair in all_pairs(book) if all(in_one(sets, pair) for sets in every))
            two = tuple(pair for pair in all_pairs(book) if not any(in_one(sets, pair) for sets in every))
            hidden = tuple(pair for pair in all_pairs(book) if pair not in one + two)
            self.assertEqual(asked.how_many_answer(book, answers), len(every))
            self.assertEqual(asked.surely_one(book, answers), one)
            self.assertEqual(asked.surely_two(book, answers), two)
            self.assertEqual(asked.still_hidden(book, answers), hidden)
            # Guarantee: if of groups that are surely in one class just the least one is counted.
            least = [name for name in names_of(book) if not any(name == pair[1] for pair in one)]
            few = len([pair for pair in hidden if set(pair) <= set(least)])
            self.assertEqual(asked.asks_left(book, answers), few)
        self.assertGreater(min(count.values()), 30)

    def test_asks_left_against_all_ways_to_ask(self):
        seen = set()
        for book, answers in list(self.each()) + [(FIVE, ()), (TWO, ()), (ROW, ())]:
            every = answering(book, answers)
            if 0 < len(every) < 53:
                few = fewest_asks(book, every)
                seen.add(few)
                self.assertEqual(asked.asks_left(book, answers), few, (book, answers))
        self.assertGreaterEqual(seen, {0, 1, 2, 3, 4, 5, 6, 10})

    def test_great_books(self):
        pairs = tuple(all_pairs(APART))
        self.assertEqual((asked.how_many_answer(APART, ()), asked.asks_left(APART, ())), (4140, 28))
        self.assertEqual((asked.surely_one(APART, ()), asked.surely_two(APART, ())), ((), ()))
        self.assertEqual(asked.still_hidden(APART, ()), pairs)
        self.assertEqual((asked.how_many_answer(FULL, ()), asked.asks_left(FULL, ())), (1, 0))
        self.assertEqual((asked.surely_one(FULL, ()), asked.still_hidden(FULL, ())), (pairs, ()))
        self.assertEqual((asked.how_many_answer(CIRCLE, ()), asked.how_many_answer(CHAIN, ())), (1, 877))
        self.assertIs(asked.can_answer(FULL, (("a", "h", False),)), False)
        apart = tuple(pair + (False,) for pair in pairs)
        self.assertEqual((asked.how_many_answer(APART, apart), asked.asks_left(APART, apart)), (1, 0))
        self.assertEqual(asked.surely_two(APART, apart), pairs)
        same = tuple(("a", other, True) for other in "bcdefgh")
        self.assertEqual((asked.how_many_answer(APART, same), asked.surely_one(APART, same)), (1, pairs))
        self.refused(Unfit, {}, asked.asks_left, APART, same + (("g", "h", False),))
        half = (("a", "b", True), ("b", "c", False), ("c", "d", True), ("e", "f", False))
        self.assertEqual(asked.how_many_answer(APART, half), len(answering(APART, half)))
        self.assertEqual(asked.asks_left(APART, half), 13)

    def test_answers_of_eight_groups(self):
        draw = random.Random(309)
        count = {True: 0, False: 0}
        for book in (APART, CHAIN, SQUARE, BOW, KNOT, CIRCLE, FULL) * 2:
            answers = drawn_answers(draw, book) if book != FULL and book != CIRCLE else ()
            every = answering(book, answers) if book not in (FULL, CIRCLE) else [(tuple(names_of(book)),)]
            count[bool(every)] += 1
            self.assertIs(asked.can_answer(book, answers), bool(every))
            if every:
                self.assertEqual(asked.how_many_answer(book, answers), len(every))
                one = tuple(pair for pair in all_pairs(book) if all(in_one(sets, pair) for sets in every))
                self.assertEqual(asked.surely_one(book, answers), one)
        self.assertGreater(count[True], 5)


class Asker:
    """Answers as these CLASSES tell, and keeps what was asked; raises the error at the call with this number."""

    def __init__(self, sets, error=None, at=None):
        self.sets, self.error, self.at, self.asked = sets, error, at, []

    def __call__(self, *names):
        if len(self.asked) == self.at:
            raise self.error
        self.asked.append(names)
        return in_one(self.sets, names)


class Told(Refusing):
    def each(self):
        for book in BOOKS + (TWO, FIVE):
            every = right_classes(book)
            for sets in every if len(every) < 16 else random.Random(310).sample(every, 15):
                yield book, sets

    def test_told_classes(self):
        most = 0
        for book, sets in self.each():
            asker = Asker(sets)
            self.assertEqual(asked.told_classes(book, asker), sets)
            self.assertLessEqual(len(asker.asked), asked.asks_left(book, ()))
            most += len(asker.asked) == asked.asks_left(book, ()) > 0
            for names in asker.asked:
                self.assertEqual(len(names), 2)
                self.assertLess(names[0], names[1])
                self.assertLessEqual(set(names), set(names_of(book)))
        self.assertGreater(most, 10)

    def test_great_books(self):
        draw = random.Random(311)
        for book, sizes in ((APART, 8), (CHAIN, 7)):
            for _ in range(30):
                table = {}
                for name in names_of(book):
                    table.setdefault(draw.randrange(draw.randint(1, sizes)), []).append(name)
                sets = tuple(sorted(tuple(some) for some in table.values()))
                asker = Asker(sets)
                self.assertEqual(asked.told_classes(book, asker), sets)
                self.assertLessEqual(len(asker.asked), sizes * (sizes - 1) // 2)
        for book in (FULL, CIRCLE):
            asker = Asker(())
            self.assertEqual(asked.told_classes(book, asker), (tuple(names_of(book)),))
            self.assertEqual(asker.asked, [])
        asker = Asker(tuple((name,) for name in "abcdefgh"))
        asked.told_classes(APART, asker)
        self.assertEqual(sorted(asker.asked), all_pairs(APART))

    def test_what_asker_raises(self):
        class Own(Exception):
            pass

        for book, sets in list(self.each())[::3]:
            many = Asker(sets)
            asked.told_classes(book, many)
            for error in (Own("x"), NoGroup("a"), Unfit(), ValueError("y"), KeyError("z"), IndexError(), StopIteration()):
                for at in range(len(many.asked)):
                    with self.assertRaises(type(error)) as caught:
                        asked.told_classes(book, Asker(sets, error, at))
                    self.assertIs(caught.exception, error)

    def test_plain_functions_too(self):
        def ask(first, second):
            return (first in "ab") == (second in "ab")

        self.assertEqual(asked.told_classes(TWO, ask), (("a", "b"), ("c", "d")))
        self.assertEqual(asked.told_classes(TWO, asker=lambda x, y: False), (("a", "b"), ("c",), ("d",)))
        self.assertEqual(asked.told_classes(TWO, asker=lambda x, y: True), (("a", "b", "c", "d"),))
        self.assertEqual(asked.told_classes(book=[list(entry) for entry in TWO], asker=ask), (("a", "b"), ("c", "d")))
        self.assertEqual(asked.told_classes(LONE, ask), (("a",),))


@functools.lru_cache(maxsize=None)
def all_answers(book, sets):
    """All ANSWERS that these CLASSES answer so."""
    told = [pair + (in_one(sets, pair),) for pair in all_pairs(book)]
    return reading.subsets(told)


@functools.lru_cache(maxsize=None)
def showing(book, sets):
    """All ANSWERS, as few as can be, such that of all right CLASSES these alone answer so."""
    found = [answers for answers in all_answers(book, sets) if answering(book, answers) == [sets]]
    return [answers for answers in found if len(answers) == len(found[0])]


class Showing(Refusing):
    def test_against_all_answers(self):
        sizes = []
        for book in SMALL_BOOKS + (TWO,):
            for sets in right_classes(book):
                right = showing(book, sets)
                sizes.append(len(right[0]))
                self.assertEqual(asked.asks_to_show(book, sets), len(right[0]))
                self.assertIn(asked.showing_answers(book, sets), right)
                for answers in all_answers(book, sets):
                    self.assertIs(asked.is_showing_answers(book, sets, answers), answers in right)
        self.assertGreaterEqual(set(sizes), {0, 1, 2, 3, 6})

    def test_answers_of_other_classes(self):
        draw = random.Random(312)
        for book in SMALL_BOOKS:
            for sets in right_classes(book):
                right = showing(book, sets)
                for _ in range(10):
                    pairs = draw.sample(all_pairs(book), min(len(right[0]), len(all_pairs(book))))
                    answers = tuple(sorted(pair + (draw.random() < 0.5,) for pair in pairs))
                    self.assertIs(asked.is_showing_answers(book, sets, answers), answers in right)

    def test_not_right(self):
        count = 0
        for book in BOOKS:
            for sets in reading.partings(names_of(book)):
                if sets not in right_classes(book):
                    count += 1
                    self.refused(Unfit, {}, asked.asks_to_show, book, sets)
                    self.refused(Unfit, {}, asked.showing_answers, book, sets)
                    self.refused(Unfit, {}, asked.is_showing_answers, book, sets, ())
        self.assertGreater(count, 300)
        for thing in THINGS:
            self.refused(Unfit, {}, asked.is_showing_answers, RING, (("a", "b"), ("c",)), thing)

    def test_bent_ones(self):
        draw = random.Random(313)
        count = {True: 0, False: 0}
        for book in SMALL_BOOKS:
            for sets in right_classes(book)[:3]:
                for thing in bent(draw, asked.showing_answers(book, sets)):
                    right = thing in showing(book, sets) and is_answers(book, thing)
                    count[right] += 1
                    self.assertIs(asked.is_showing_answers(book, sets, thing), right, thing)
        self.assertGreater(count[False], 3000)
        self.assertGreater(count[True], 100)

    def test_things_of_all_kinds(self):
        sets = (("a", "b"), ("c", "d"))
        for thing in THINGS:
            for bent_thing in (thing, (thing,), (("a", "c", False), thing), (("a", "c", False), ("c", "d", thing))):
                right = bent_thing in showing(TWO, sets) and is_answers(TWO, bent_thing)
                self.assertIs(asked.is_showing_answers(TWO, sets, bent_thing), right)
        self.assertIs(asked.is_showing_answers(TWO, sets, (("a", "c", False), ("c", "d", True))), True)
        self.assertIs(asked.is_showing_answers(TWO, sets, (("a", "c", 0), ("c", "d", 1))), False)
        self.assertIs(asked.is_showing_answers(RING, (("a", "b", "c"),), ()), True)

    def test_great_books(self):
        lone, whole = tuple((name,) for name in "abcdefgh"), (tuple("abcdefgh"),)
        half = (tuple("aceg"), tuple("bdfh"))
        for sets, few in ((lone, 28), (whole, 7), (half, 7), ((("a", "h"), ("b",), tuple("cdefg")), 8)):
            self.assertEqual(asked.asks_to_show(APART, sets), few)
            answers = asked.showing_answers(APART, sets)
            self.assertIs(is_answers(APART, answers), True)
            self.assertEqual(len(answers), few)
            self.assertEqual(answering(APART, answers), [sets])
            self.assertIs(asked.is_showing_answers(APART, sets, answers), True)
        self.assertEqual((asked.asks_to_show(FULL, whole), asked.showing_answers(FULL, whole)), (0, ()))
        self.refused(Unfit, {}, asked.asks_to_show, FULL, half)


class Runs(Refusing):
    def each(self):
        yield from drawn_pairs(314, BOOKS * 2 + (TWO, RING) * 10, 8)
        for book in (RING, TWO, BOW):
            for run in runs_to_one(book)[::5]:
                yield book, run

    def test_against_all_classes(self):
        count = {True: 0, False: 0}
        for book, run in self.each():
            every = [sets for sets in reading.partings(names_of(book)) if keeps(book, run, sets)]
            found = asked.classes_kept(book, run)
            self.assertIs(type(found), list)
            self.assertEqual(found, every)
            self.assertEqual(asked.fewest_orderers(book, run), min(len(sets) for sets in every))
            barred = tuple(pair for pair in all_pairs(book) if not any(in_one(sets, pair) for sets in every))
            self.assertEqual(asked.barred_pairs(book, run), barred)
            for one, other in itertools.product(names_of(book), repeat=2):
                right = tuple(sorted((one, other))) not in barred
                count[right] += 1
                self.assertIs(asked.can_share(book, run, one, other), right)
        self.assertGreater(min(count.values()), 100)

    def test_no_group(self):
        run = tuple((name, ()) for name in reading.crowd(ROW))
        for one, other in itertools.product(NAMES + ("", "A"), repeat=2):
            nothing = [name for name in (one, other) if name not in names_of(ROW)]
            if nothing:
                self.refused(NoGroup, {"group": nothing[0]}, asked.can_share, ROW, run, one, other)
        self.refused(NoGroup, {"group": "p"}, asked.can_share, ROW, run, "p", "q")

    def test_six_groups_and_24_letters(self):
        draw = random.Random(315)
        sizes = set()
        for book in tuple(drawn_book(random.Random(seed), 6, 8) for seed in range(3150, 3165)) + thick_books(3170, 10):
            run = draw.choice((drawn_run, wild_run))(draw, book, drawn_numbers(draw, book, 24))
            every = [sets for sets in reading.partings(names_of(book)) if keeps(book, run, sets)]
            self.assertEqual(asked.classes_kept(book, run), every)
            self.assertEqual(asked.fewest_orderers(book, run), min(len(sets) for sets in every))
            sizes.add(asked.fewest_orderers(book, run))
        self.assertGreater(len(sizes), 2)
        book = FULL[:6]
        run = wild_run(draw, book, (4,) * 6)
        self.assertEqual(asked.classes_kept(book, run), [tuple((name,) for name in "abcdef")])
        self.assertEqual(asked.fewest_orderers(book, run), 6)
        calm = tuple((name, tuple((group, number) for number in (1, 2, 3, 4) for group in "abcdef")) for name in "pqrstuvw")
        self.assertEqual(len(asked.classes_kept(book, calm)), 203)
        self.assertEqual((asked.fewest_orderers(book, calm), asked.barred_pairs(book, calm)), (1, ()))

    def test_great_books(self):
        draw = random.Random(316)
        for book in GREAT_BOOKS:
            run = wild_run(draw, book, drawn_numbers(draw, book, 24))
            barred = asked.barred_pairs(book, run)
            for pair in all_pairs(book):
                right = reading.has_weaving(reading.cut_rows(run, lambda letter: letter[0] in pair))
                self.assertIs(pair not in barred, right)
                self.assertIs(asked.can_share(book, run, *pair), right)


class Refuted(unittest.TestCase):
    def right(self, book, sets, thing):
        if not reading.is_run(book, thing) or any(number > 1 for _, number in reading.letters_in(thing)):
            return False
        return not keeps(book, thing, sets)

    def test_against_all_runs(self):
        count = {True: 0, False: 0}
        for book in [book for book in SMALL_BOOKS if reading.many_runs(book, (1,) * len(book)) <= 60]:
            every = runs_to_one(book)
            for sets in reading.partings(names_of(book)):
                refuting = [run for run in every if not keeps(book, run, sets)]
                right = bool(refuting)
                count[right] += 1
                # Guarantee: exactly if some ROUND has all its groups in one of the classes.
                self.assertIs(any(in_one(sets, way[0::2]) for way in plain_rounds(book)), right)
                self.assertIs(asked.can_be_refuted(book, sets), right, (book, sets))
                run = asked.refuting_run(book, sets)
                self.assertIs(run in refuting if right else run is None, True)
                for run in every[::3]:
                    self.assertIs(asked.is_refuting_run(book, sets, run), run in refuting)
        self.assertGreater(min(count.values()), 60)

    def test_two_letters_of_each_group(self):
        for book in [book for book in SMALL_BOOKS if reading.many_runs(book, (2,) * len(book)) <= 300][:25]:
            every = reading.runs(book, (2,) * len(book))
            for sets in reading.partings(names_of(book)):
                right = any(not keeps(book, run, sets) for run in every)
                self.assertIs(asked.can_be_refuted(book, sets), right)
                for run in every[:3]:
                    # More than one LETTER of a group is too many.
                    self.assertIs(asked.is_refuting_run(book, sets, run), False)

    def test_all_classes(self):
        for book in BOOKS + (TWO, FIVE):
            for sets in reading.partings(names_of(book))[:60]:
                right = any(in_one(sets, way[0::2]) for way in plain_rounds(book))
                self.assertIs(asked.can_be_refuted(book, sets), right)
                run = asked.refuting_run(book, sets)
                if right:
                    self.assertIs(self.right(book, sets, run), True)
                    self.assertIs(asked.is_refuting_run(book, sets, run), True)
                else:
                    self.assertIsNone(run)

    def test_great_books(self):
        for book in GREAT_BOOKS:
            names = names_of(book)
            half = (tuple(names[::2]), tuple(names[1::2])) if len(names) > 1 else (tuple(names),)
            for sets in ((tuple(names),), tuple((name,) for name in names), half):
                run = asked.refuting_run(book, sets)
                self.assertIs(asked.can_be_refuted(book, sets), run is not None)
                if run is not None:
                    self.assertIs(self.right(book, sets, run), True)
                    self.assertIs(asked.is_refuting_run(book, sets, run), True)
        whole = (tuple("abcdefgh"),)
        self.assertEqual([asked.can_be_refuted(book, whole) for book in (FULL, CIRCLE, APART)], [True, True, False])
        self.assertIs(asked.can_be_refuted(CIRCLE, (tuple("abcdefg"), ("h",))), False)
        self.assertIs(asked.can_be_refuted(CHAIN, (tuple("abcdefg"),)), False)

    def test_bent_ones(self):
        draw = random.Random(317)
        count = {True: 0, False: 0}
        for book in BOOKS[::3] + TOLD_BOOKS:
            sets = (tuple(names_of(book)),)
            run = asked.refuting_run(book, sets)
            if run is None:
                continue
            for thing in list(bent(draw, run)) + list(bent_runs(draw, run)):
                right = self.right(book, sets, thing)
                count[right] += 1
                self.assertIs(asked.is_refuting_run(book, sets, thing), right, thing)
        self.assertGreater(count[False], 2000)
        self.assertGreater(count[True], 15)

    def test_things_of_all_kinds(self):
        sets = (("a", "b", "c"),)
        run = asked.refuting_run(RING, sets)
        for thing in THINGS:
            for bent_thing in (thing, (thing,), run[:2] + (thing,), run[:2] + (("r", thing),), run[:2] + (("r", (thing,)),)):
                self.assertIs(asked.is_refuting_run(RING, sets, bent_thing), self.right(RING, sets, bent_thing))

    def test_groups_and_people_of_the_same_names(self):
        self.assertIs(asked.can_be_refuted(SAME, (("a", "b"), ("c",))), True)
        self.assertIs(self.right(SAME, (("a", "b"), ("c",)), asked.refuting_run(SAME, (("a", "b"), ("c",)))), True)
        self.assertIsNone(asked.refuting_run(SAME, (("a", "c"), ("b",))))


if __name__ == "__main__":
    unittest.main()
