"""[14]: waiting by stamps, against all rounds, all runs and stamps of small books, and a plain reading step by step."""

import functools
import itertools
import random
import unittest

import reading
from checking import Refusing
from drawing import APART, BOW, CHAIN, CIRCLE, FULL, KNOT, LONE, NAMES, RING, ROW, SAME, SQUARE, THINGS, TOLD_BOOKS
from drawing import bent, circle_books, drawn_book, drawn_books, drawn_came, drawn_numbers, drawn_row, drawn_run
from drawing import thick_books, thin_books, wild_run
from orderrings import waits
from orderrings.errors import NoPerson

BOOKS = drawn_books(261, 40) + thick_books(262, 20) + thin_books(263, 30) + circle_books(264, 50)
SMALL_BOOKS = tuple(
    book for book in BOOKS + circle_books(265, 30, 4) + drawn_books(266, 40, 3, 4)
    if len(book) < 5 and reading.many_runs(book, (1,) * len(book)) <= 100
)
GREAT_BOOKS = (FULL, APART, CIRCLE, CHAIN) + tuple(drawn_book(random.Random(seed), 8, 8) for seed in range(2670, 2685))
CHORD = (("g", ("p", "s")), ("h", ("p", "r")), ("j", ("p", "r", "s")))
GREAT = 10 ** 30


@functools.lru_cache(maxsize=None)
def plain_rounds(book):
    return reading.rounds(book)


def all_waits(book):
    return [
        (name, one, other)
        for name in reading.crowd(book)
        for one, other in itertools.combinations([group for group, members in book if name in members], 2)
    ]


@functools.lru_cache(maxsize=None)
def needed(book):
    """The needed WAITS, by the words of the document."""
    table = reading.unordered(book)
    found = set()
    for way in plain_rounds(book):
        stops, links = way[0::2], way[1::2]
        for at, name in enumerate(links):
            two = (stops[at], stops[(at + 1) % len(stops)])
            if not any(name in table[group] for group in stops if group not in two):
                found.add((name,) + tuple(sorted(two)))
    return tuple(sorted(found))


def is_waits(book, thing):
    if type(thing) is not tuple or any(type(wait) is not tuple or len(wait) != 3 for wait in thing):
        return False
    if not all(type(name) is str for wait in thing for name in wait):
        return False
    return all(wait in all_waits(book) for wait in thing) and list(thing) == sorted(set(thing))


def is_stamps(run, thing):
    if type(thing) is not tuple or any(type(pair) is not tuple or len(pair) != 2 for pair in thing):
        return False
    for letter, stamp in thing:
        if not reading.is_letter(letter) or type(stamp) is not int or stamp < 1:
            return False
    if [letter for letter, _ in thing] != reading.letters_in(run) or len(set(stamp for _, stamp in thing)) < len(thing):
        return False
    for (one, low), (other, high) in itertools.combinations(thing, 2):
        if one[0] == other[0] and low > high:
            return False
    return True


def keeps(run, stamps, wait):
    """Whether the RUN keeps this WAIT by the STAMPS."""
    name, *two = wait
    row = [letter for letter in dict(run)[name] if letter[0] in two]
    return row == sorted(row, key=lambda letter: dict(stamps)[letter])


def keeps_all(run, stamps, some):
    return all(keeps(run, stamps, wait) for wait in some)


def all_stamps(run):
    """STAMPS of the RUN in each order in which those of each group rise."""
    letters = reading.letters_in(run)
    for row in itertools.permutations(letters):
        if reading.in_order(row):
            yield tuple(sorted((letter, place + 1) for place, letter in enumerate(row)))


def drawn_stamps(draw, run):
    row = drawn_row(draw, tuple(reading.letters_in(run)))
    top = draw.choice((len(row), 3 * len(row), GREAT))
    numbers = sorted(draw.sample(range(1, top + 1), len(row))) if top < GREAT else sorted({draw.randint(1, GREAT) for _ in row})
    return tuple(sorted(zip(row, numbers)))


def some_of(draw, values, share=None):
    share = draw.choice((0.2, 0.5, 0.8, 0.95)) if share is None else share
    return tuple(value for value in values if draw.random() < share)


def shown_and_held(some, person, came):
    """What is shown and what is held back, step by step as the document tells it."""
    beside = {}
    for name, one, other in some:
        if name == person:
            beside.setdefault(one, set()).add(other)
            beside.setdefault(other, set()).add(one)
    shown = []
    for many in range(1, len(came) + 1):
        arrived = came[:many]
        done = False
        while not done:
            done = True
            for group, stamp in arrived:
                if (group, stamp) in shown:
                    continue
                right = all(own in shown for own in arrived if own[0] == group and own[1] < stamp)
                for other in beside.get(group, ()):
                    right = right and any(pair[0] == other and pair[1] > stamp for pair in arrived)
                    right = right and all(pair in shown for pair in arrived if pair[0] == other and pair[1] < stamp)
                if right:
                    shown.append((group, stamp))
                    done = False
                    break
    return tuple(shown), tuple(sorted(set(came) - set(shown)))


class Needed(Refusing):
    def test_against_all_rounds(self):
        count = 0
        for book in BOOKS + TOLD_BOOKS + (CHORD,):
            found = waits.needed_waits(book)
            self.assertEqual(found, needed(book), book)
            count += 0 < len(found) < len(all_waits(book))
            for person in reading.crowd(book):
                expected = tuple((one, other) for name, one, other in needed(book) if name == person)
                self.assertEqual(waits.waits_of(book, person), expected)
        self.assertGreater(count, 30)

    def test_great_books(self):
        # In FULL everybody is in all groups: so just ROUNDS of two groups need WAITS.
        self.assertEqual(waits.needed_waits(FULL), tuple(all_waits(FULL)))
        self.assertEqual(waits.needed_waits(CIRCLE), tuple(all_waits(CIRCLE)))
        for book in (APART, CHAIN):
            self.assertEqual(waits.needed_waits(book), ())
        for book in GREAT_BOOKS:
            table = reading.unordered(book)
            expected = []
            for name, one, other in all_waits(book):
                # Some way leads from one to other by groups and people that are not this person's, nor this person.
                reached = {one}
                for _ in book:
                    crowd = set(person for group in reached for person in table[group]) - {name}
                    near = [group for group in table if table[group] & crowd]
                    reached |= set(group for group in near if group == other or name not in table[group])
                expected.extend([(name, one, other)] * (other in reached))
            self.assertEqual(waits.needed_waits(book), tuple(expected))

    def test_nobody(self):
        for book in BOOKS[:40]:
            for person in NAMES + ("",):
                if person not in reading.crowd(book):
                    self.refused(NoPerson, {"person": person}, waits.waits_of, book, person)
                    self.refused(NoPerson, {"person": person}, waits.shown_row, book, (), person, ())
                    self.refused(NoPerson, {"person": person}, waits.held_back, book, (), person, ())
        self.refused(NoPerson, {"person": "a"}, waits.waits_of, RING, "a")

    def test_groups_and_people_of_the_same_names(self):
        self.assertEqual(waits.needed_waits(SAME), (("a", "a", "b"), ("b", "a", "b")))
        self.assertEqual(waits.needed_waits(LONE), ())


class IsWaits(unittest.TestCase):
    def test_drawn_ones(self):
        draw = random.Random(267)
        for book in BOOKS:
            for _ in range(5):
                some = some_of(draw, all_waits(book))
                self.assertIs(waits.is_waits(book, some), True)
                self.assertIs(waits.is_waits(book, list(some)), False)
                self.assertIs(waits.is_waits(book, some + some[:1]), not some)
                self.assertIs(waits.is_waits(book, some[::-1]), len(some) < 2)

    def test_bent_ones(self):
        draw = random.Random(268)
        count = {True: 0, False: 0}
        for book in BOOKS[:70]:
            for thing in bent(draw, tuple(all_waits(book)[:6])):
                right = is_waits(book, thing)
                count[right] += 1
                self.assertIs(waits.is_waits(book, thing), right, thing)
        self.assertGreater(count[False], 3000)
        self.assertGreater(count[True], 50)

    def test_all_triples(self):
        for book in (RING, CHORD, SAME, ROW):
            names = sorted(set(reading.crowd(book)) | set(group for group, _ in book))
            for wait in itertools.product(names, repeat=3):
                self.assertIs(waits.is_waits(book, (wait,)), wait in all_waits(book))

    def test_things_of_all_kinds(self):
        for thing in THINGS:
            for bent_thing in (thing, (thing,), (("p", "a", "b"), thing), (("p", "a", thing),), (("p", thing, "b"),),
                               ((thing, "a", "b"),), (("p", "a", "b", thing),)):
                self.assertIs(waits.is_waits(RING, bent_thing), is_waits(RING, bent_thing))
        self.assertIs(waits.is_waits(LONE, ()), True)

    def test_great_books(self):
        every = tuple(all_waits(FULL))
        self.assertEqual(len(every), 224)
        self.assertIs(waits.is_waits(FULL, every), True)
        self.assertIs(waits.is_waits(FULL, every[:100] + every[101:]), True)
        self.assertIs(waits.is_waits(FULL, every[1:] + every[:1]), False)


class Enough(unittest.TestCase):
    def test_against_all_runs_and_stamps(self):
        """FOR ALL RUNS of one LETTER of each group: more LETTERS and no LETTERS tell no more."""
        draw = random.Random(269)
        count = {True: 0, False: 0}
        for book in SMALL_BOOKS:
            every = all_waits(book)
            sets = [needed(book), (), tuple(every)] + [some_of(draw, every) for _ in range(3)]
            sets += [tuple(wait for wait in needed(book) if wait != one) for one in needed(book)[:3]]
            ringing = [run for run in reading.runs(book, (1,) * len(book)) if reading.has_ring(run)]
            pairs = [(run, stamps) for run in ringing for stamps in all_stamps(run)]
            kept = [frozenset(wait for wait in every if keeps(run, stamps, wait)) for run, stamps in pairs]
            for some in sets:
                right = not any(set(some) <= waits_kept for waits_kept in kept)
                count[right] += 1
                self.assertIs(waits.are_enough_waits(book, some), right, (book, some))
                self.assertIs(set(needed(book)) <= set(some), right)
        self.assertGreater(min(count.values()), 100)

    def test_missing_and_spare(self):
        draw = random.Random(270)
        for book in BOOKS + (CHORD,):
            for _ in range(6):
                some = some_of(draw, all_waits(book))
                missing = tuple(wait for wait in needed(book) if wait not in some)
                self.assertEqual(waits.missing_waits(book, some), missing)
                self.assertEqual(waits.spare_waits(book, some), tuple(wait for wait in some if wait not in needed(book)))
                self.assertIs(waits.are_enough_waits(book, some), not missing)

    def test_great_books(self):
        draw = random.Random(271)
        for book in GREAT_BOOKS:
            every, right = tuple(all_waits(book)), waits.needed_waits(book)
            self.assertIs(waits.are_enough_waits(book, right), True)
            self.assertIs(waits.are_enough_waits(book, every), True)
            self.assertIs(waits.are_enough_waits(book, ()), not right)
            self.assertEqual(waits.missing_waits(book, ()), right)
            self.assertEqual(waits.spare_waits(book, every), tuple(wait for wait in every if wait not in right))
            some = some_of(draw, every, 0.9)
            self.assertEqual(waits.missing_waits(book, some), tuple(wait for wait in right if wait not in some))


class Stamps(unittest.TestCase):
    def each(self):
        """Triples (BOOK, RUN, STAMPS)."""
        draw = random.Random(272)
        for book in BOOKS + GREAT_BOOKS:
            for call, most in ((drawn_run, 5), (wild_run, 8), (drawn_run, 24)):
                run = call(draw, book, drawn_numbers(draw, book, most))
                yield book, run, drawn_stamps(draw, run)

    def test_is_stamps(self):
        draw = random.Random(273)
        count = {True: 0, False: 0}
        for _, run, stamps in self.each():
            self.assertIs(is_stamps(run, stamps), True)
            letters = [letter for letter, _ in stamps]
            numbers = [stamp for _, stamp in stamps]
            draw.shuffle(numbers)
            for thing in (stamps, list(stamps), stamps[1:], stamps[::-1], stamps + stamps[-1:], tuple(zip(letters, numbers)),
                          tuple(zip(letters, [stamp - 1 for _, stamp in stamps])), tuple(zip(letters, numbers[:1] * 99))):
                right = is_stamps(run, thing)
                count[right] += 1
                self.assertIs(waits.is_stamps(run, thing), right)
        self.assertGreater(min(count.values()), 300)

    def test_bent_ones(self):
        draw = random.Random(274)
        count = {True: 0, False: 0}
        for book, run, stamps in list(self.each())[:90]:
            some = some_of(draw, all_waits(book))
            for thing in bent(draw, stamps):
                right = is_stamps(run, thing)
                count[right] += 1
                self.assertIs(waits.is_stamps(run, thing), right, thing)
                self.assertIs(waits.is_stamps_for(run, some, thing), right and keeps_all(run, thing, some))
        self.assertGreater(count[False], 4000)
        self.assertGreater(count[True], 200)

    def test_things_of_all_kinds(self):
        run = (("p", (("a", 1), ("b", 1))), ("q", (("b", 1),)), ("r", (("a", 1),)))
        right = ((("a", 1), 3), (("b", 1), 5))
        self.assertIs(waits.is_stamps(run, right), True)
        for thing in THINGS:
            for bent_thing in (thing, (thing,), (right[0], thing), (right[0], (("b", 1), thing)), (right[0], (thing, 5)),
                               (right[0], (("b", thing), 5)), (right[0], ((thing, 1), 5)), right + (thing,)):
                for own in (run, (("a", ()),)):
                    self.assertIs(waits.is_stamps(own, bent_thing), is_stamps(own, bent_thing))
                    self.assertIs(waits.is_stamps_for(own, (), bent_thing), is_stamps(own, bent_thing))
        self.assertIs(waits.is_stamps((("a", (("a", 1),)),), ((("a", True), 1),)), False)
        self.assertIs(waits.is_stamps((("a", (("a", 1),)),), ((("a", 1), True),)), False)
        self.assertIs(waits.is_stamps((("a", (("a", 1),)),), ((("a", 1), 1),)), True)

    def test_keeps_and_broken(self):
        draw = random.Random(275)
        count = {True: 0, False: 0}
        for book, run, stamps in self.each():
            for some in (tuple(all_waits(book)), some_of(draw, all_waits(book)), ()):
                right = keeps_all(run, stamps, some)
                count[right] += 1
                self.assertIs(waits.keeps_waits(run, stamps, some), right)
                self.assertEqual(waits.broken_waits(run, stamps, some), tuple(w for w in some if not keeps(run, stamps, w)))
        self.assertGreater(min(count.values()), 150)

    def test_stamps_for(self):
        draw = random.Random(276)
        count = {True: 0, False: 0}
        for book in BOOKS * 2 + (RING, CHORD) * 10:
            run = draw.choice((drawn_run, wild_run))(draw, book, drawn_numbers(draw, book, 5))
            every = list(all_stamps(run))
            for some in (tuple(all_waits(book)), some_of(draw, all_waits(book)), ()):
                right = [stamps for stamps in every if keeps_all(run, stamps, some)]
                count[bool(right)] += 1
                found = waits.stamps_for(run, some)
                if not right:
                    self.assertIsNone(found)
                    continue
                self.assertIs(is_stamps(run, found) and keeps_all(run, found, some), True)
                for stamps in right[:5] + every[:5]:
                    self.assertIs(waits.is_stamps_for(run, some, stamps), stamps in right)
        self.assertGreater(min(count.values()), 50)

    def test_24_letters(self):
        draw = random.Random(277)
        count = {True: 0, False: 0}
        for book in GREAT_BOOKS * 2 + BOOKS[:40]:
            for call in (drawn_run, wild_run):
                run = call(draw, book, drawn_numbers(draw, book, 24))
                some = some_of(draw, all_waits(book))
                found = waits.stamps_for(run, some)
                # Guarantee: none exactly if LETTERS go round in the numbers of groups and, for WAITS, in their rows.
                rows = [(name, tuple(x for x in dict(run)[name] if x[0] in two)) for name, *two in some]
                rows += [("", tuple(x for x in reading.letters_in(run) if x[0] == group)) for group, _ in book]
                right = not reading.has_ring(rows)
                count[right] += 1
                self.assertIs(found is not None, right)
                if right:
                    self.assertIs(is_stamps(run, found) and keeps_all(run, found, some), True)
                    self.assertIs(waits.is_stamps_for(run, some, found), True)
        self.assertGreater(min(count.values()), 20)

    def test_no_letters(self):
        run = tuple((name, ()) for name in reading.crowd(RING))
        self.assertEqual(waits.stamps_for(run, tuple(all_waits(RING))), ())
        self.assertIs(waits.is_stamps(run, ()), True)
        self.assertIs(waits.is_stamps(run, []), False)
        self.assertIs(waits.keeps_waits(run, (), tuple(all_waits(RING))), True)


class InSpite(unittest.TestCase):
    def right(self, book, some, thing):
        if type(thing) is not tuple or len(thing) != 3:
            return False
        run, stamps, ring = thing
        if not reading.is_run(book, run) or not is_stamps(run, stamps) or not keeps_all(run, stamps, some):
            return False
        return reading.is_ring(run, ring)

    def test_ring_in_spite(self):
        draw = random.Random(278)
        count = {True: 0, False: 0}
        for book in BOOKS + TOLD_BOOKS + GREAT_BOOKS + (CHORD,):
            every, need = tuple(all_waits(book)), waits.needed_waits(book)
            sets = [every, (), need] + [some_of(draw, every, share) for share in (0.5, 0.8, 0.95, 0.95)]
            # All WAITS but one.
            sets += [tuple(wait for wait in every if wait != one) for one in draw.sample(every, min(4, len(every)))]
            for some in sets:
                thing = waits.ring_in_spite(book, some)
                enough = set(need) <= set(some)
                count[enough] += 1
                if enough:
                    self.assertIsNone(thing)
                else:
                    self.assertIs(self.right(book, some, thing), True, (book, some, thing))
                    self.assertIs(waits.is_ring_in_spite(book, some, thing), True)
        self.assertGreater(min(count.values()), 200)

    def test_is_ring_in_spite(self):
        draw = random.Random(279)
        count = {True: 0, False: 0}
        for book in BOOKS * 2 + (RING,) * 20:
            run = wild_run(draw, book, drawn_numbers(draw, book, 7))
            stamps = drawn_stamps(draw, run)
            kept = tuple(wait for wait in all_waits(book) if keeps(run, stamps, wait))
            for ring in reading.rings(run)[:3]:
                for some in ((), some_of(draw, all_waits(book), 0.2), kept):
                    for thing in ((run, stamps, ring), (run, stamps, ring[1:])):
                        right = self.right(book, some, thing)
                        count[right] += 1
                        self.assertIs(waits.is_ring_in_spite(book, some, thing), right)
        self.assertGreater(min(count.values()), 30)

    def test_bent_ones(self):
        draw = random.Random(280)
        count = {True: 0, False: 0}
        for book in (RING, CHORD, SAME, KNOT) + BOOKS[::6]:
            some = tuple(all_waits(book))[:-1]
            triple = waits.ring_in_spite(book, ()) if waits.ring_in_spite(book, some) is None else waits.ring_in_spite(book, some)
            if triple is not None:
                for thing in bent(draw, triple):
                    right = self.right(book, some, thing)
                    count[right] += 1
                    self.assertIs(waits.is_ring_in_spite(book, some, thing), right, thing)
        self.assertGreater(count[False], 3000)
        self.assertGreater(count[True], 15)

    def test_things_of_all_kinds(self):
        run, stamps, ring = waits.ring_in_spite(RING, ())
        for thing in THINGS:
            for bent_thing in (thing, (thing,), (thing, stamps, ring), (run, thing, ring), (run, stamps, thing),
                               (run, stamps, ring, thing)):
                self.assertIs(waits.is_ring_in_spite(RING, (), bent_thing), False)
        self.assertIs(waits.is_ring_in_spite(RING, (), (run, stamps, ring)), True)
        self.assertIs(waits.is_ring_in_spite(RING, (), [run, stamps, ring]), False)


class Shown(unittest.TestCase):
    def test_step_by_step(self):
        draw = random.Random(281)
        held = {True: 0, False: 0}
        out_of_order = 0
        for book in (BOOKS + (CHORD,) * 30 + GREAT_BOOKS) * 3:
            person = draw.choice(reading.crowd(book))
            groups = [group for group, members in book if person in members]
            came = drawn_came(draw, groups, draw.randint(0, 12))
            every = all_waits(book)
            for some in (tuple(every), some_of(draw, every), waits.needed_waits(book), ()):
                shown, back = shown_and_held(some, person, came)
                held[bool(back)] += 1
                out_of_order += 1 if shown != came[:len(shown)] else 0
                self.assertEqual(waits.shown_row(book, some, person, came), shown, (some, person, came))
                self.assertEqual(waits.held_back(book, some, person, came), back)
        self.assertGreater(min(held.values()), 200)
        self.assertGreater(out_of_order, 100)

    def test_without_waits_all_is_shown(self):
        draw = random.Random(282)
        for book in BOOKS + GREAT_BOOKS:
            for person in reading.crowd(book):
                came = drawn_came(draw, [group for group, members in book if person in members], 8)
                # WAITS of other people do not matter.
                some = tuple(wait for wait in all_waits(book) if wait[0] != person)
                for given in ((), some):
                    self.assertEqual(waits.shown_row(book, given, person, came), came)
                    self.assertEqual(waits.held_back(book, given, person, came), ())

    def test_shown_in_the_order_of_stamps(self):
        """What two groups of a WAIT sent is shown in the order of their stamps, whenever it came."""
        draw = random.Random(283)
        for book in (BOOKS + GREAT_BOOKS) * 2:
            person = draw.choice(reading.crowd(book))
            groups = [group for group, members in book if person in members]
            came = drawn_came(draw, groups, draw.randint(2, 14))
            some = some_of(draw, all_waits(book), 0.6)
            shown = waits.shown_row(book, some, person, came)
            for name, *two in some:
                if name == person:
                    stamps = [stamp for group, stamp in shown if group in two]
                    self.assertEqual(stamps, sorted(stamps))

    def test_told_ones(self):
        some = (("p", "a", "b"),)
        for came, shown in (
            ((("a", 3),), ()),
            ((("b", 5), ("a", 3)), (("a", 3),)),
            ((("a", 3), ("b", 5), ("a", 6)), (("a", 3), ("b", 5))),
            ((("b", 2), ("b", 4), ("a", 3), ("a", 5)), (("b", 2), ("a", 3), ("b", 4))),
            ((("a", 1), ("a", 2), ("a", 4), ("b", 3)), (("a", 1), ("a", 2), ("b", 3))),
            ((("a", 1), ("a", 2), ("b", 3)), (("a", 1), ("a", 2))),
            ((("a", GREAT), ("b", GREAT - 1)), (("b", GREAT - 1),)),
            ((), ()),
        ):
            self.assertEqual(waits.shown_row(RING, some, "p", came), shown)
            self.assertEqual(waits.held_back(RING, some, "p", came), tuple(sorted(set(came) - set(shown))))

    def test_several_at_once_the_one_that_came_first(self):
        book = (("a", ("p",)), ("b", ("p",)), ("c", ("p",)))
        some = (("p", "a", "c"), ("p", "b", "c"))
        came = (("b", 2), ("a", 1), ("c", 3))
        self.assertEqual(waits.shown_row(book, some, "p", came), (("b", 2), ("a", 1)))
        self.assertEqual(waits.shown_row(book, some, "p", came + (("a", 4), ("b", 5))), (("b", 2), ("a", 1), ("c", 3)))
        # Behind each that is shown the first one is looked for anew.
        came = (("c", 3), ("b", 4), ("a", 2), ("a", 5), ("b", 1), ("c", 9))
        self.assertEqual(waits.shown_row(book, some, "p", came), shown_and_held(some, "p", came)[0])


if __name__ == "__main__":
    unittest.main()
