"""[3], [4]: books."""

import random
import unittest

import reading
from drawing import GREAT_BOOKS, NAMES, RING, ROW, SAME, THINGS, drawn_books, some_names
from orderrings import books
from orderrings.errors import Known, NoGroup, NoPerson, Unfit

BOOKS = drawn_books(4, 150) + drawn_books(5, 40, 8, 8) + GREAT_BOOKS
STRANGE = ("", "x", "nobody", "A", "a b", "abcdefghijk", "\u00e9")


def bent_books(book):
    """BOOKS with one thing changed: most of them are none."""
    yield list(book)
    yield book[::-1]
    yield book[1:]
    yield book + book[-1:]
    yield book + (("zzz", ("p",)),)
    yield (("a", ("p",)),) + book
    for at, (group, members) in enumerate(book):
        for name in ("", "a" * 9, "a" * 8, "A", "a1", "a b", "a\n", "\u00e4", "-", None, 1, True, (group,), [group]):
            yield book[:at] + ((name, members),) + book[at + 1:]
            yield book[:at] + ((group, members[:-1] + (name,)),) + book[at + 1:]
        for entry in (
            [group, members], (group, list(members)), (group,), (group, members, ()), (group, ()), (group, members[::-1]),
            (group, members + members[-1:]), (group, members[:1] + members), (group, None), (group, members[0]),
            (group, (members,)), (members, group), group, None, (), (group, members + ("zzz",)), (group, ("a",) + members),
        ):
            yield book[:at] + (entry,) + book[at + 1:]


class IsBook(unittest.TestCase):
    def test_books(self):
        for book in BOOKS:
            self.assertIs(books.is_book(book), True)

    def test_bent_books(self):
        told = []
        for book in BOOKS:
            for thing in bent_books(book):
                expected = reading.is_book(thing)
                told.append(expected)
                self.assertIs(books.is_book(thing), expected, thing)
        self.assertGreater(told.count(True), 100)
        self.assertGreater(told.count(False), 1000)

    def test_bent_in_one_known_way(self):
        for thing in (
            (), [], (("a", ()),), (("a", ("p", "p")),), (("a", ("q", "p")),), (("b", ("p",)), ("a", ("p",))),
            (("a", ("p",)), ("a", ("q",))), (("", ("p",)),), (("a" * 9, ("p",)),), (("a", ("",)),), (("a", ("p" * 9,)),),
            [("a", ("p",))], (["a", ("p",)],), (("a", ["p"]),), (("a",),), (("a", ("p",), ()),), (("B", ("p",)),),
            (("a", "p"),), ("a", ("p",)), (("a", ("p2",)),), (("\u00e9", ("p",)),), (("a", ("p", True)),),
        ):
            self.assertIs(books.is_book(thing), False, thing)
        for thing in ((("a" * 8, ("p" * 8,)),), (("a", ("a",)),), (("a", ("p",)), ("aa", ("p",)))):
            self.assertIs(books.is_book(thing), True, thing)

    def test_things_of_all_kinds(self):
        for thing in THINGS:
            self.assertIs(books.is_book(thing), reading.is_book(thing), thing)
            self.assertIs(books.is_book((thing,)), reading.is_book((thing,)), thing)
            self.assertIs(books.is_book((("a", thing),)), reading.is_book((("a", thing),)), thing)
            self.assertIs(books.is_book(((thing, ("p",)),)), reading.is_book(((thing, ("p",)),)), thing)

    def test_many_groups_and_people(self):
        names = tuple(one + other for one in reading.SIGNS for other in reading.SIGNS)
        great = tuple((name, names) for name in names[:300])
        self.assertIs(books.is_book(great), True)
        self.assertIs(books.is_book(great + (("a", ("p",)),)), False)
        self.assertIs(books.is_book(great[:-1] + ((great[-1][0], names + ("aa",)),)), False)


class Looks(unittest.TestCase):
    def test_sets(self):
        for book in BOOKS:
            self.assertEqual(books.groups(book), tuple(sorted(reading.unordered(book))))
            self.assertEqual(books.people(book), tuple(reading.crowd(book)))
            self.assertEqual(books.memberships(book), tuple(sorted(reading.ties(book))))

    def test_members_and_groups(self):
        for book in BOOKS:
            table = reading.unordered(book)
            for group in table:
                self.assertEqual(books.members_of(book, group), tuple(sorted(table[group])))
            for person in reading.crowd(book):
                mine = tuple(sorted(group for group in table if person in table[group]))
                self.assertEqual(books.groups_of(book, person), mine)

    def test_in_both(self):
        for book in BOOKS:
            table = reading.unordered(book)
            for one in table:
                for other in table:
                    self.assertEqual(books.in_both(book, one, other), tuple(sorted(table[one] & table[other])))

    def test_parts(self):
        for book in BOOKS:
            self.assertEqual(books.parts(book), reading.parts(book))
        self.assertEqual(books.parts(SAME), (("a", "b", "c"),))
        # a and e hang together only by d, then c, then b.
        long = (("a", ("p", "q")), ("b", ("q", "u")), ("c", ("u", "t")), ("d", ("s", "t")), ("e", ("s",)), ("f", ("z",)))
        self.assertEqual(books.parts(long), (("a", "b", "c", "d", "e"), ("f",)))
        back = (("a", ("s", "t")), ("b", ("q", "u")), ("c", ("t", "u")), ("d", ("z",)), ("e", ("q",)))
        self.assertEqual(books.parts(back), (("a", "b", "c", "e"), ("d",)))

    def test_nobody_and_no_group(self):
        for book in BOOKS[:40]:
            for name in STRANGE + NAMES:
                if name not in reading.unordered(book):
                    self.refused(NoGroup, "group", name, books.members_of, book, name)
                    self.refused(NoGroup, "group", name, books.in_both, book, name, "also none")
                    self.refused(NoGroup, "group", name, books.in_both, book, book[0][0], name)
                if name not in reading.crowd(book):
                    self.refused(NoPerson, "person", name, books.groups_of, book, name)

    def refused(self, error, name, value, call, *args):
        with self.assertRaises(error) as caught:
            call(*args)
        self.assertIs(type(caught.exception), error)
        self.assertEqual(vars(caught.exception), {name: value})


class Changed(unittest.TestCase):
    refused = Looks.refused

    def test_with_group(self):
        draw = random.Random(6)
        for book in BOOKS:
            for group in draw.sample(NAMES, 4):
                members = some_names(draw, 1, 4)
                table = reading.unordered(book)
                if group in table:
                    self.refused(Known, "name", group, books.with_group, book, group, members)
                else:
                    table[group] = members
                    self.assertEqual(books.with_group(book, group, members), reading.as_book(table))

    def test_without_group(self):
        for book in BOOKS:
            self.refused(NoGroup, "group", "nogroup", books.without_group, book, "nogroup")
            for group in reading.unordered(book):
                table = reading.unordered(book)
                del table[group]
                if table:
                    self.assertEqual(books.without_group(book, group), reading.as_book(table))

    def test_cut_to(self):
        draw = random.Random(7)
        for book in BOOKS:
            table = reading.unordered(book)
            for _ in range(4):
                some = some_names(draw, 1, len(book), tuple(table))
                cut = reading.as_book({group: table[group] for group in some})
                self.assertEqual(books.cut_to(book, some), cut)
                other = some_names(draw, 1, 5)
                strange = [group for group in other if group not in table]
                if strange:
                    self.refused(NoGroup, "group", strange[0], books.cut_to, book, other)

    def test_cut_to_tells_the_first_that_is_none(self):
        self.refused(NoGroup, "group", "g", books.cut_to, RING, ("a", "g", "h"))
        self.refused(NoGroup, "group", "aa", books.cut_to, RING, ("a", "aa", "b", "p"))
        self.refused(NoGroup, "group", "p", books.cut_to, RING, ("p",))

    def test_with_member(self):
        for book in BOOKS:
            for group in reading.unordered(book):
                for person in NAMES + tuple(reading.crowd(book)):
                    table = reading.unordered(book)
                    table[group].add(person)
                    self.assertEqual(books.with_member(book, group, person), reading.as_book(table))
        self.refused(NoGroup, "group", "p", books.with_member, RING, "p", "p")
        self.refused(NoGroup, "group", "x", books.with_member, RING, "x", "nobody")

    def test_without_member(self):
        for book in BOOKS:
            for group in reading.unordered(book):
                for person in reading.crowd(book):
                    table = reading.unordered(book)
                    table[group].discard(person)
                    if table[group]:
                        self.assertEqual(books.without_member(book, group, person), reading.as_book(table))
                    else:
                        with self.assertRaises(Unfit):
                            books.without_member(book, group, person)

    def test_without_member_in_the_order_of_its_checks(self):
        self.refused(NoGroup, "group", "x", books.without_member, ROW, "x", "y")
        self.refused(NoGroup, "group", "p", books.without_member, ROW, "p", "p")
        self.refused(NoPerson, "person", "y", books.without_member, ROW, "a", "y")
        self.refused(NoPerson, "person", "a", books.without_member, ROW, "a", "a")
        with self.assertRaises(Unfit):
            books.without_member(ROW, "a", "p")
        self.assertEqual(books.without_member(ROW, "a", "s"), ROW)


class Renamed(unittest.TestCase):
    def drawn_pairs(self, draw, old_names):
        pool = sorted(set(NAMES) | set(old_names))
        first = draw.sample(pool, draw.randint(0, min(5, len(pool))))
        second = draw.sample(pool, len(first)) if draw.random() < 0.5 else [draw.choice(NAMES) for _ in first]
        return tuple(zip(first, second))

    def test_groups_renamed(self):
        draw = random.Random(8)
        told = {True: 0, False: 0}
        for book in BOOKS * 3:
            pairs = self.drawn_pairs(draw, reading.unordered(book))
            named = [(dict(pairs).get(group, group), members) for group, members in book]
            fits = len(dict(named)) == len(book)
            told[fits] += 1
            if fits:
                self.assertEqual(books.groups_renamed(book, pairs), reading.as_book(dict(named)))
            else:
                with self.assertRaises(Unfit):
                    books.groups_renamed(book, pairs)
        self.assertGreater(min(told.values()), 30)

    def test_people_renamed(self):
        draw = random.Random(9)
        told = {True: 0, False: 0}
        for book in BOOKS * 3:
            crowd = reading.crowd(book)
            pairs = self.drawn_pairs(draw, crowd)
            named = {person: dict(pairs).get(person, person) for person in crowd}
            fits = len(set(named.values())) == len(crowd)
            told[fits] += 1
            if fits:
                table = {group: [named[person] for person in members] for group, members in book}
                self.assertEqual(books.people_renamed(book, pairs), reading.as_book(table))
            else:
                with self.assertRaises(Unfit):
                    books.people_renamed(book, pairs)
        self.assertGreater(min(told.values()), 30)

    def test_exchanged_all_at_once(self):
        turn = (("a", "b"), ("b", "c"), ("c", "a"))
        self.assertEqual(books.groups_renamed(RING, turn), (("a", ("q", "r")), ("b", ("p", "r")), ("c", ("p", "q"))))
        swap = (("p", "q"), ("q", "p"))
        self.assertEqual(books.people_renamed(RING, swap), (("a", ("q", "r")), ("b", ("p", "q")), ("c", ("p", "r"))))

    def test_names_of_nobody(self):
        for pairs in ((), (("x", "a"), ("y", "a")), (("x", "p"),), (("p", "a"),)):
            self.assertEqual(books.groups_renamed(RING, pairs), RING)
        for pairs in ((), (("x", "p"), ("y", "p")), (("a", "p"),)):
            self.assertEqual(books.people_renamed(RING, pairs), RING)

    def test_people_of_unlike_groups_alike(self):
        # p and s are together in no group.
        with self.assertRaises(Unfit):
            books.people_renamed(ROW, (("p", "s"),))
        with self.assertRaises(Unfit):
            books.people_renamed(ROW, (("p", "x"), ("s", "x")))
        with self.assertRaises(Unfit):
            books.groups_renamed(ROW, (("a", "x"), ("c", "x")))

    def test_only_groups_or_only_people(self):
        self.assertEqual(books.groups_renamed(SAME, (("a", "x"),)), SAME[1:] + (("x", ("a", "b")),))
        self.assertEqual(
            books.people_renamed(SAME, (("a", "x"),)), (("a", ("b", "x")), ("b", ("b", "c", "x")), ("c", ("c",)))
        )

    def test_turned(self):
        for book in BOOKS:
            table = {person: set() for person in reading.crowd(book)}
            for group, person in reading.ties(book):
                table[person].add(group)
            self.assertEqual(books.turned(book), reading.as_book(table))
            self.assertEqual(books.turned(books.turned(book)), book)


if __name__ == "__main__":
    unittest.main()
