"""[5]: the web, against rounds and ways that the test lists itself."""

import itertools
import random
import unittest

import reading
from checking import Refusing
from drawing import APART, BOW, CHAIN, CIRCLE, FULL, KNOT, RING, ROW, SAME, SQUARE, THINGS, drawn_book, drawn_books
from drawing import thick_books
from orderrings import webs
from orderrings.errors import NoGroup, NoPerson, Unfit

BOOKS = tuple(
    book for book in drawn_books(11, 180) + drawn_books(12, 25, 5, 4) + drawn_books(13, 25, 4, 5) + thick_books(17, 80)
    if len(reading.ties(book)) <= 16
)
ROUNDS = {book: reading.rounds(book) for book in BOOKS}
NAMES = ("a", "b", "p", "nobody", "", "a b", "A")
EIGHT = ("a", "p", "h", "w", "g", "v", "f", "u", "e", "t", "d", "s", "c", "r", "b", "q")


def turns(way):
    """The same ROUND begun at each of its groups, either way about."""
    for at in range(0, len(way), 2):
        onward = way[at:] + way[:at]
        yield onward
        yield (onward[0],) + onward[:0:-1]


def drawn_ways(draw, book):
    """Strings by turns, mostly groups and people of the BOOK."""
    groups, crowd = sorted(reading.unordered(book)), reading.crowd(book)
    for _ in range(30):
        many = draw.randint(0, 4)
        way = [draw.choice(draw.choice((groups, crowd)) if draw.random() < 0.1 else (groups, crowd)[at % 2])
               for at in range(2 * many)]
        if way and draw.random() < 0.1:
            way[draw.randrange(len(way))] = draw.choice(NAMES)
        if draw.random() < 0.1:
            way = way[:-1] if draw.random() < 0.5 else way + [draw.choice(groups + crowd)]
        yield tuple(way)


class Rounds(Refusing):
    def test_enough_of_each_kind_is_drawn(self):
        many = [len(ROUNDS[book]) for book in BOOKS]
        self.assertGreater(many.count(0), 30)
        self.assertGreater(many.count(1), 20)
        self.assertGreater(len([number for number in many if number > 3]), 20)
        self.assertTrue(any(len(way) == 8 for book in BOOKS for way in ROUNDS[book]))

    def test_rounds(self):
        for book in BOOKS:
            found = webs.rounds(book)
            self.assertIs(type(found), list)
            self.assertEqual(found, ROUNDS[book])
            self.assertIs(webs.has_round(book), bool(ROUNDS[book]))

    def test_shortest_round(self):
        for book in BOOKS:
            shortest = min(ROUNDS[book], key=lambda way: (len(way), way), default=None)
            self.assertEqual(webs.shortest_round(book), shortest)

    def test_fewest_groups_ahead_of_least(self):
        # The least of all ROUNDS has three groups, the shortest one two others.
        book = (("a", ("p", "r")), ("b", ("p", "q")), ("c", ("q", "r", "x", "y")), ("d", ("x", "y")))
        self.assertEqual(webs.rounds(book)[0], ("a", "p", "b", "q", "c", "r"))
        self.assertEqual(webs.shortest_round(book), ("c", "x", "d", "y"))

    def test_great_books(self):
        self.assertEqual(webs.rounds(CIRCLE), [EIGHT])
        self.assertEqual(webs.shortest_round(CIRCLE), EIGHT)
        self.assertEqual(webs.shortest_round(FULL), ("a", "p", "b", "q"))
        for book in (APART, CHAIN):
            self.assertIs(webs.has_round(book), False)
            self.assertIsNone(webs.shortest_round(book))
            self.assertEqual(webs.rounds(book), [])
        for book in (FULL, CIRCLE):
            self.assertIs(webs.has_round(book), True)
        four = tuple((group, ("p", "q", "r", "s")) for group in "abcd")
        self.assertEqual(len(webs.rounds(four)), 36 + 96 + 72)

    def test_a_round_and_a_part_without(self):
        for more in ((("x", ("x",)),), (("x", ("x", "y")), ("y", ("y", "z"))), (("x", ("p",)),)):
            self.assertEqual(webs.rounds(RING + more), [("a", "p", "b", "q", "c", "r")])
            self.assertIs(webs.has_round(RING + more), True)

    def test_is_round(self):
        draw = random.Random(14)
        for book in BOOKS:
            for way in ROUNDS[book][:12]:
                self.assertIs(webs.is_round(book, way), True)
                self.assertIs(webs.is_round(book, list(way)), False)
                self.assertIs(webs.is_round(book, way[:-1]), False)
                self.assertIs(webs.is_round(book, way + way[:2]), False)
                for turned in turns(way):
                    self.assertIs(webs.is_round(book, turned), turned == way)
                    at = draw.randrange(len(way))
                    for name in (draw.choice(way), "nobody", None, 1, (way[at],), [way[at]]):
                        bent = turned[:at] + (name,) + turned[at + 1:]
                        right = isinstance(name, str) and reading.is_plain_round(book, bent)
                        self.assertIs(webs.is_round(book, bent), right)
            for way in drawn_ways(draw, book):
                self.assertIs(webs.is_round(book, way), way in ROUNDS[book])

    def test_is_round_of_things_of_all_kinds(self):
        book = (("a", ("p", "q", "a", "b")), ("b", ("p", "q", "a", "b")), ("ab", ("ab", "p")))
        for thing in THINGS:
            self.assertIs(webs.is_round(book, thing), thing == ("a", "p", "b", "q"), thing)
            self.assertIs(webs.is_round(book, ("a", thing, "b", "q")), thing in ("p", "a", "b"), thing)
            self.assertIs(webs.is_round(book, (thing, "p", "b", "q")), thing == "a", thing)

    def test_names_of_groups_and_people_alike(self):
        self.assertEqual(webs.rounds(SAME), [("a", "a", "b", "b")])
        self.assertEqual(webs.round_from(SAME, ("b", "a", "a", "b")), ("a", "a", "b", "b"))
        book = (("a", ("b", "c")), ("b", ("a", "c")), ("c", ("a", "b")))
        self.assertEqual(webs.rounds(book), [("a", "b", "c", "a", "b", "c")])
        for way in turns(("a", "b", "c", "a", "b", "c")):
            self.assertEqual(webs.round_from(book, way), ("a", "b", "c", "a", "b", "c"))


class RoundFrom(Refusing):
    def test_begun_anywhere_either_way_about(self):
        for book in BOOKS:
            for way in ROUNDS[book]:
                for turned in turns(way):
                    self.assertEqual(webs.round_from(book, turned), way)
        for turned in turns(EIGHT):
            self.assertEqual(webs.round_from(CIRCLE, turned), EIGHT)

    def test_whatever_strings_stand_in_way(self):
        draw = random.Random(15)
        told = {True: 0, False: 0}
        for book in BOOKS:
            known = {turned: way for way in ROUNDS[book] for turned in turns(way)}
            for way in drawn_ways(draw, book):
                told[way in known] += 1
                if way in known:
                    self.assertEqual(webs.round_from(book, way), known[way])
                else:
                    self.refused(Unfit, {}, webs.round_from, book, way)
        self.assertGreater(min(told.values()), 50)

    def test_none_one_too_few_or_too_many(self):
        way = ("a", "p", "b", "q", "c", "r")
        for many in (0, 1, 2, 3, 4, 5):
            self.refused(Unfit, {}, webs.round_from, RING, way[:many])
        for more in (("a",), ("a", "p"), ("x",), ("x", "y"), way):
            self.refused(Unfit, {}, webs.round_from, RING, way + more)
        for bent in (
            ("p", "b", "q", "c", "r", "a"), ("x", "p", "b", "q", "c", "r"), ("a", "x", "b", "q", "c", "r"), ("a", "p"),
            ("a", "p", "a", "r"), ("a", "p", "b", "p"), ("x", "y"), ("", "", "", ""), ("b", "p", "a", "q", "c", "r"),
        ):
            self.refused(Unfit, {}, webs.round_from, RING, bent)

    def test_twice_round(self):
        self.refused(Unfit, {}, webs.round_from, KNOT, ("a", "p", "b", "r", "c", "s", "b", "q"))
        self.refused(Unfit, {}, webs.round_from, BOW, ("a", "p", "b", "q", "c", "r", "d", "q"))


class Blocks(Refusing):
    def test_is_on_round_bridges(self):
        for book in BOOKS:
            on = set().union(*[reading.on_round(way) for way in ROUNDS[book]])
            for group, person in reading.ties(book):
                self.assertIs(webs.is_on_round(book, group, person), (group, person) in on)
            expected = tuple(tie for tie in sorted(reading.ties(book)) if tie not in on)
            self.assertEqual(webs.bridges(book), expected)

    def test_blocks(self):
        for book in BOOKS:
            expected = reading.blocks(book)
            self.assertEqual(webs.blocks(book), expected)
            for block in expected:
                for tie in block:
                    self.assertEqual(webs.block_of(book, *tie), block)

    def test_great_blocks(self):
        every = tuple(sorted(reading.ties(FULL)))
        self.assertEqual(webs.blocks(FULL), (every,))
        self.assertEqual(webs.block_of(FULL, "h", "w"), every)
        self.assertEqual(webs.blocks(CIRCLE), (tuple(sorted(reading.ties(CIRCLE))),))
        for book in (APART, CHAIN):
            self.assertEqual(webs.blocks(book), tuple((tie,) for tie in sorted(reading.ties(book))))
            self.assertEqual(webs.bridges(book), tuple(sorted(reading.ties(book))))
        self.assertEqual([len(block) for block in webs.blocks(BOW)], [4, 4])
        self.assertEqual([len(block) for block in webs.blocks(KNOT)], [4, 4])
        self.assertEqual([len(block) for block in webs.blocks(SQUARE)], [8, 1, 1])

    def test_guarantees(self):
        draw = random.Random(16)
        great = tuple(drawn_book(draw, 8, 8) for _ in range(60))
        for book in BOOKS + great + (FULL, APART, CIRCLE, CHAIN):
            found = webs.blocks(book)
            every = [tie for block in found for tie in block]
            self.assertEqual(sorted(every), sorted(reading.ties(book)))
            for one, other in itertools.combinations(found, 2):
                both = {group for group, _ in one} & {group for group, _ in other}
                shared = {person for _, person in one} & {person for _, person in other}
                self.assertLess(len(both) + len(shared), 2)
            for call, at in ((webs.cut_people, 1), (webs.cut_groups, 0)):
                names = [name for block in found for name in sorted({tie[at] for tie in block})]
                self.assertEqual(call(book), tuple(sorted({name for name in names if names.count(name) > 1})))
            self.assertIs(webs.has_round(book), webs.bridges(book) != tuple(sorted(reading.ties(book))))


class Cuts(Refusing):
    def test_cut_people(self):
        for book in BOOKS + (FULL, APART, CIRCLE, CHAIN):
            self.assertEqual(webs.cut_people(book), reading.cut_people(book))
        self.assertEqual(webs.cut_people(CHAIN), tuple("qrstuv"))
        self.assertEqual(webs.cut_people(BOW), ("q",))
        self.assertEqual(webs.cut_people(KNOT), ())

    def test_cut_groups(self):
        for book in BOOKS:
            found = [group for group, _ in book if len([1 for block in reading.blocks(book)
                                                        if group in [tie[0] for tie in block]]) > 1]
            self.assertEqual(webs.cut_groups(book), tuple(found))
        self.assertEqual(webs.cut_groups(BOW), ())
        self.assertEqual(webs.cut_groups(KNOT), ("b",))
        self.assertEqual(webs.cut_groups(CHAIN), tuple("abcdefg"))


class Ways(Refusing):
    def test_way_between(self):
        for book in BOOKS + (CIRCLE, CHAIN, APART):
            for one, other in itertools.product(reading.unordered(book), repeat=2):
                self.assertEqual(webs.way_between(book, one, other), reading.way_between(book, one, other))

    def test_told_ways(self):
        self.assertEqual(webs.way_between(FULL, "h", "a"), ("h", "p", "a"))
        self.assertEqual(webs.way_between(CHAIN, "g", "d"), ("g", "v", "f", "u", "e", "t", "d"))
        self.assertEqual(webs.way_between(CIRCLE, "a", "e"), ("a", "p", "h", "w", "g", "v", "f", "u", "e"))
        self.assertEqual(webs.way_between(CIRCLE, "a", "d"), ("a", "q", "b", "r", "c", "s", "d"))
        self.assertIsNone(webs.way_between(APART, "a", "b"))
        self.assertEqual(webs.way_between(APART, "a", "a"), ("a",))
        # The least person leads on, not the least group: from a by p to c and d, by q to b and d.
        book = (("a", ("p", "q")), ("b", ("q", "s")), ("c", ("p", "r")), ("d", ("r", "s")))
        self.assertEqual(webs.way_between(book, "a", "d"), ("a", "p", "c", "r", "d"))


class Checks(Refusing):
    def test_no_group_then_nobody_then_unfit(self):
        for call in (webs.is_on_round, webs.block_of):
            self.refused(NoGroup, {"group": "x"}, call, ROW, "x", "y")
            self.refused(NoGroup, {"group": "p"}, call, ROW, "p", "p")
            self.refused(NoPerson, {"person": "y"}, call, ROW, "a", "y")
            self.refused(NoPerson, {"person": "a"}, call, ROW, "a", "a")
            self.refused(Unfit, {}, call, ROW, "a", "q")
        for book in BOOKS[:60]:
            for group, person in itertools.product(NAMES + tuple(reading.unordered(book)),
                                                   NAMES + tuple(reading.crowd(book))):
                for call in (webs.is_on_round, webs.block_of):
                    if group not in reading.unordered(book):
                        self.refused(NoGroup, {"group": group}, call, book, group, person)
                    elif person not in reading.crowd(book):
                        self.refused(NoPerson, {"person": person}, call, book, group, person)
                    elif (group, person) not in reading.ties(book):
                        self.refused(Unfit, {}, call, book, group, person)

    def test_way_between_no_groups(self):
        self.refused(NoGroup, {"group": "x"}, webs.way_between, ROW, "x", "y")
        self.refused(NoGroup, {"group": "y"}, webs.way_between, ROW, "a", "y")
        self.refused(NoGroup, {"group": "x"}, webs.way_between, ROW, "x", "x")
        self.refused(NoGroup, {"group": "p"}, webs.way_between, ROW, "b", "p")


if __name__ == "__main__":
    unittest.main()
