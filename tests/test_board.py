"""[16]: a board, beside a plain reading of the document that tells all anew from the deeds."""

import copy
import inspect
import random
import unittest

import reading
from checking import Refusing
from drawing import APART, BOW, CHAIN, CIRCLE, FULL, KNOT, NAMES, RING, ROW, SAME, SQUARE, TOLD_BOOKS
from drawing import circle_books, drawn_books, thick_books, thin_books
from orderrings import books, classes, judged, runs
from orderrings.board import Board
from orderrings.errors import NoGroup, NoPerson, NothingDone, Unfit

BOOKS = drawn_books(321, 20) + thick_books(322, 8) + thin_books(323, 12) + circle_books(324, 10)
LOOKS = ("book", "classes", "sent", "rows", "is_round", "is_calm", "run")
DEEDS = ("send", "get", "share", "join", "leave")


class Plain:
    """A board as the document tells it: the deeds that are not undone, and all else told anew from them."""

    def __init__(self, book):
        self.start, self.deeds = book, []

    def told(self):
        """The groups with their members, the classes, what was sent, and what everybody got."""
        table = {group: set(members) for group, members in self.start}
        sets = [{group} for group in table]
        sent, got = [], []
        for word, *names in self.deeds:
            if word == "send":
                sent.append((names[0], 1 + len([letter for letter in sent if letter[0] == names[0]])))
            elif word == "get":
                got.append((names[0], (names[1], 1 + len([1 for who, letter in got if (who, letter[0]) == tuple(names)]))))
            elif word == "share":
                both = set().union(*[some for some in sets if set(names) & some])
                sets = [some for some in sets if not some & both] + [both]
            elif word == "join":
                table[names[0]].add(names[1])
            else:
                table[names[0]].discard(names[1])
        return table, sets, sent, got

    def book(self):
        return reading.as_book(self.told()[0])

    def classes(self):
        return tuple(sorted(tuple(sorted(some)) for some in self.told()[1]))

    def sent(self):
        return tuple(self.told()[2])

    def rows(self):
        got = self.told()[3]
        return tuple((name, tuple(letter for who, letter in got if who == name)) for name in reading.crowd(self.book()))

    def need_group(self, group):
        if group not in self.told()[0]:
            raise NoGroup(group)

    def need_person(self, person):
        if person not in reading.crowd(self.book()):
            raise NoPerson(person)

    def waiting(self, person):
        self.need_person(person)
        table, _, sent, got = self.told()
        return tuple(letter for letter in sent if person in table[letter[0]] and (person, letter) not in got)

    def can_get(self, person):
        left = self.waiting(person)
        firsts = [[letter for letter in left if letter[0] in some][:1] for some in self.told()[1]]
        return tuple(sorted(letter for first in firsts for letter in first))

    def is_round(self):
        return reading.has_ring(self.rows())

    def is_calm(self):
        stops = [set(way[0::2]) for way in reading.grown_rounds(self.book())]
        return all(any(way <= some for some in self.told()[1]) for way in stops)

    def run(self):
        return None if any(self.waiting(name) for name in reading.crowd(self.book())) else self.rows()

    def count(self):
        return len(self.deeds)

    def send(self, group):
        self.need_group(group)
        self.deeds.append(("send", group))
        return self.told()[2][-1][1]

    def get(self, person, group):
        self.need_person(person)
        self.need_group(group)
        own = [letter for letter in self.waiting(person) if letter[0] == group]
        if not own or own[0] not in self.can_get(person):
            raise Unfit()
        self.deeds.append(("get", person, group))
        return own[0][1]

    def need_nothing_sent(self, *groups):
        for some in self.told()[1]:
            if some & set(groups) and any(letter[0] in some for letter in self.told()[2]):
                raise Unfit()

    def share(self, one, other):
        self.need_group(one)
        self.need_group(other)
        self.need_nothing_sent(one, other)
        self.deeds.append(("share", one, other))

    def join(self, group, person):
        self.need_group(group)
        self.need_nothing_sent(group)
        self.deeds.append(("join", group, person))

    def leave(self, group, person):
        self.need_group(group)
        self.need_person(person)
        self.need_nothing_sent(group)
        if self.told()[0][group] == {person}:
            raise Unfit()
        self.deeds.append(("leave", group, person))

    def undo(self):
        if not self.deeds:
            raise NothingDone()
        self.deeds.pop()


def drawn_deed(draw, plain, strange=True):
    """The name of a deed and its arguments: most of them can be done, if not too much was done before."""
    groups = [group for group, _ in plain.book()] + ["x"] * strange
    crowd = reading.crowd(plain.book()) + ["y"] * strange
    word = draw.choice(("send", "send", "get", "get", "get", "get", "share", "join", "leave", "undo"))
    if word == "send":
        return word, (draw.choice(groups),)
    if word == "get":
        person = draw.choice(crowd)
        left = plain.waiting(person) if person in reading.crowd(plain.book()) else ()
        return word, (person, draw.choice([letter[0] for letter in left] or groups))
    if word == "share":
        return word, (draw.choice(groups), draw.choice(groups))
    if word == "join":
        return word, (draw.choice(groups), draw.choice(crowd + ["new", "z"]))
    if word == "leave":
        return word, (draw.choice(groups), draw.choice(crowd))
    return word, ()


class BoardTest(Refusing):
    def alike(self, board, plain):
        """All looks tell the same."""
        for look in LOOKS:
            self.assertEqual(reading.outcome(getattr(board, look)), reading.outcome(getattr(plain, look)), (look, plain.deeds))
        self.assertEqual(len(board), plain.count())
        for person in reading.crowd(plain.book()):
            for look in ("waiting", "can_get"):
                self.assertEqual(getattr(board, look)(person), getattr(plain, look)(person), (look, plain.deeds))

    def do(self, board, plain, word, names):
        """The same deed on both."""
        told = reading.outcome(getattr(plain, word), *names)
        self.assertEqual(reading.outcome(getattr(board, word), *names), told, (word, names, plain.deeds))
        return told


class Deeds(BoardTest):
    def test_drawn_deeds(self):
        draw = random.Random(325)
        count = {}
        for book in BOOKS + TOLD_BOOKS * 2:
            board, plain = Board(book), Plain(book)
            self.alike(board, plain)
            quiet = draw.choice((0, 0, 8))
            for number in range(draw.choice((12, 30, 60))):
                word, names = drawn_deed(draw, plain)
                while number < quiet and word == "send":
                    word, names = drawn_deed(draw, plain)
                before = plain.count(), plain.book(), plain.classes(), plain.sent(), plain.rows()
                told = self.do(board, plain, word, names)
                count[word, told.partition(" ")[0]] = count.get((word, told.partition(" ")[0]), 0) + 1
                if told.startswith("raises"):
                    # It changes nothing and is no deed.
                    self.assertEqual((len(board), board.book(), board.classes(), board.sent(), board.rows()), before)
                self.alike(board, plain)
            while plain.deeds:
                self.do(board, plain, "undo", ())
                self.alike(board, plain)
            self.refused(NothingDone, {}, board.undo)
            self.assertTrue(board == Board(book))
        for word in DEEDS + ("undo",):
            self.assertGreater(count[word, "returns"], 40, word)
            self.assertGreater(count[word, "raises"], 15, word)

    def test_all_that_was_sent_is_got(self):
        draw = random.Random(326)
        rounds = {True: 0, False: 0}
        for book in BOOKS + TOLD_BOOKS:
            board, plain = Board(book), Plain(book)
            for _ in range(draw.randint(0, 3)):
                names = [group for group, _ in book]
                self.do(board, plain, "share", (draw.choice(names), draw.choice(names)))
            for _ in range(draw.randint(1, 5)):
                self.do(board, plain, "send", (draw.choice([group for group, _ in plain.book()]),))
            while plain.run() is None and plain.count() < 60:
                person = draw.choice([name for name in reading.crowd(plain.book()) if plain.waiting(name)])
                group, number = draw.choice(plain.can_get(person))
                self.assertEqual(board.get(person, group), number)
                plain.get(person, group)
                self.alike(board, plain)
            run = board.run()
            if run is None:
                continue
            self.assertTrue(runs.is_run(board.book(), run))
            self.assertTrue(reading.is_run(board.book(), run))
            self.assertEqual(run, board.rows())
            self.assertTrue(classes.keeps_classes(board.book(), board.classes(), run))
            rounds[board.is_round()] += 1
            self.assertIs(board.is_round(), judged.short_ring(run) is not None)
            self.assertIs(board.is_round(), runs.weaving(run) is None)
            if board.is_calm():
                self.assertIs(board.is_round(), False)
        self.assertGreater(rounds[True], 2)
        self.assertGreater(rounds[False], 30)

    def test_sixty_deeds_of_eight_groups(self):
        draw = random.Random(327)
        for book in (FULL, CIRCLE, CHAIN, APART):
            for kind in ("all", "letters"):
                board, plain = Board(book), Plain(book)
                for number in range(60):
                    word, names = drawn_deed(draw, plain)
                    while word == "undo" or word == "send" and len(plain.sent()) > 23 or names[-1:] in (("new",), ("z",)):
                        word, names = drawn_deed(draw, plain)
                    if kind == "letters" and number < 24:
                        word, names = "send", (draw.choice("abcdefgh"),)
                        names = names if names[0] in dict(book) else (book[0][0],)
                    self.do(board, plain, word, names)
                    for look in ("book", "classes", "sent", "rows", "is_round", "run"):
                        self.assertEqual(getattr(board, look)(), getattr(plain, look)())
                    self.assertIs(board.is_calm(), classes.are_right(board.book(), board.classes()))
                for person in reading.crowd(plain.book()):
                    self.assertEqual(board.waiting(person), plain.waiting(person))
                    self.assertEqual(board.can_get(person), plain.can_get(person))
                while len(board):
                    board.undo()
                self.assertTrue(board == Board(book))

    def test_returned_values(self):
        board = Board(RING)
        self.assertEqual([board.send("a"), board.send("a"), board.send("b")], [1, 2, 1])
        self.assertEqual([board.get("p", "a"), board.get("p", "b"), board.get("p", "a")], [1, 1, 2])
        self.assertEqual([board.undo(), board.get("p", "a"), board.send("a")], [None, 2, 3])
        other = Board(RING)
        self.assertEqual([other.share("a", "b"), other.join("c", "p"), other.leave("c", "p"), other.undo()], [None] * 4)


class Classes(BoardTest):
    def test_first_sent_of_each_class(self):
        board = Board(ROW)
        board.share("b", "a")
        for group in ("b", "c", "a", "b", "a"):
            board.send(group)
        self.assertEqual(board.waiting("p"), (("b", 1), ("a", 1), ("b", 2), ("a", 2)))
        self.assertEqual(board.can_get("p"), (("b", 1),))
        self.assertEqual(board.can_get("q"), (("b", 1), ("c", 1)))
        self.refused(Unfit, {}, board.get, "p", "a")
        self.assertEqual(board.get("p", "b"), 1)
        self.refused(Unfit, {}, board.get, "p", "b")
        self.assertEqual([board.get("p", "a"), board.get("p", "b"), board.get("p", "a")], [1, 2, 2])
        self.refused(Unfit, {}, board.get, "p", "a")
        self.assertEqual(board.can_get("p"), ())
        # Who is no member of the group is to get nothing of it.
        self.refused(Unfit, {}, board.get, "p", "c")
        self.refused(Unfit, {}, board.get, "r", "a")

    def test_classes_that_are_one_already(self):
        board = Board(RING)
        self.assertIsNone(board.share("a", "a"))
        self.assertEqual((board.classes(), len(board)), ((("a",), ("b",), ("c",)), 1))
        board.share("c", "a")
        self.assertIsNone(board.share("a", "c"))
        self.assertEqual((board.classes(), len(board)), ((("a", "c"), ("b",)), 3))
        board.send("c")
        for one, other in (("a", "a"), ("a", "c"), ("b", "a"), ("c", "b")):
            self.refused(Unfit, {}, board.share, one, other)
        self.assertIsNone(board.share("b", "b"))
        board.undo()
        board.undo()
        self.assertIsNone(board.share("b", "a"))
        self.assertEqual(board.classes(), (("a", "b", "c"),))

    def test_is_calm_beside_are_right(self):
        draw = random.Random(328)
        calm = {True: 0, False: 0}
        for book in BOOKS + TOLD_BOOKS + (FULL, CIRCLE, CHAIN, APART):
            board = Board(book)
            names = [group for group, _ in book]
            for _ in range(len(names) + 2):
                right = classes.are_right(book, board.classes())
                calm[right] += 1
                self.assertIs(board.is_calm(), right)
                board.share(draw.choice(names), draw.choice(names))
        self.assertGreater(min(calm.values()), 60)

    def test_finest_right_classes_are_calm(self):
        for book in BOOKS + TOLD_BOOKS:
            board = Board(book)
            for some in classes.finest_right(book):
                for group in some:
                    board.share(some[0], group)
            self.assertEqual(board.classes(), classes.finest_right(book))
            self.assertIs(board.is_calm(), True)


class Members(BoardTest):
    def test_beside_with_and_without_member(self):
        draw = random.Random(329)
        for book in BOOKS + TOLD_BOOKS:
            board, now = Board(book), book
            for _ in range(12):
                group, person = draw.choice(now)[0], draw.choice(reading.crowd(now) + list(NAMES))
                if draw.random() < 0.5:
                    now = books.with_member(now, group, person)
                    board.join(group, person)
                else:
                    told = reading.outcome(books.without_member, now, group, person)
                    self.assertEqual(reading.outcome(board.leave, group, person).split(" ")[0], told.split(" ")[0])
                    if told.startswith("returns"):
                        now = books.without_member(now, group, person)
                    else:
                        self.assertEqual(reading.outcome(board.leave, group, person), told)
                self.assertEqual(board.book(), now)
                self.assertEqual(board.rows(), tuple((name, ()) for name in reading.crowd(now)))

    def test_people_new_to_the_book(self):
        board = Board(RING)
        board.send("c")
        board.join("a", "new")
        self.assertEqual(board.book()[0], ("a", ("new", "p", "r")))
        self.assertEqual([name for name, _ in board.rows()], ["new", "p", "q", "r"])
        self.assertEqual((board.waiting("new"), board.can_get("new"), board.run()), ((), (), None))
        board.send("a")
        self.assertEqual((board.waiting("new"), board.get("new", "a")), ((("a", 1),), 1))
        for _ in range(3):
            board.undo()
        self.refused(NoPerson, {"person": "new"}, board.waiting, "new")
        self.assertEqual(board.book(), RING)

    def test_who_is_member_already_and_who_is_none(self):
        board = Board(RING)
        self.assertIsNone(board.join("a", "p"))
        self.assertIsNone(board.leave("a", "q"))
        self.assertEqual((board.book(), len(board)), (RING, 2))
        self.assertFalse(board == Board(ROW))
        self.assertTrue(board == Board(RING))

    def test_the_last_member(self):
        board = Board(RING)
        board.leave("a", "p")
        self.refused(Unfit, {}, board.leave, "a", "r")
        self.assertIsNone(board.leave("a", "q"))
        board.leave("b", "p")
        self.refused(NoPerson, {"person": "p"}, board.leave, "a", "p")
        self.assertEqual(board.rows(), (("q", ()), ("r", ())))
        board.undo()
        self.assertEqual([name for name, _ in board.rows()], ["p", "q", "r"])

    def test_nothing_may_be_sent(self):
        board = Board(RING)
        board.share("a", "b")
        board.send("b")
        for group in ("a", "b"):
            self.refused(Unfit, {}, board.join, group, "z")
            self.refused(Unfit, {}, board.join, group, "p")
            self.refused(Unfit, {}, board.leave, group, "p")
            self.refused(Unfit, {}, board.leave, group, "r")
        self.assertIsNone(board.join("c", "z"))
        self.assertIsNone(board.leave("c", "q"))
        self.assertEqual(board.waiting("q"), (("b", 1),))


class Refused(BoardTest):
    def test_strangers(self):
        board = Board(SAME)
        before = board.twin()
        for look in (board.waiting, board.can_get):
            self.refused(NoPerson, {"person": "x"}, look, "x")
            self.refused(NoPerson, {"person": ""}, look, "")
        self.refused(NoGroup, {"group": "x"}, board.send, "x")
        self.refused(NoPerson, {"person": "x"}, board.get, "x", "y")
        self.refused(NoPerson, {"person": "x"}, board.get, "x", "a")
        self.refused(NoGroup, {"group": "y"}, board.get, "a", "y")
        self.refused(NoGroup, {"group": "x"}, board.share, "x", "y")
        self.refused(NoGroup, {"group": "y"}, board.share, "a", "y")
        self.refused(NoGroup, {"group": "x"}, board.join, "x", "y")
        self.refused(NoGroup, {"group": "x"}, board.leave, "x", "y")
        self.refused(NoPerson, {"person": "y"}, board.leave, "a", "y")
        self.refused(NothingDone, {}, board.undo)
        self.assertTrue(board == before)
        self.assertEqual(len(board), 0)

    def test_strangers_ahead_of_all_else(self):
        board = Board(RING)
        board.send("a")
        self.refused(NoGroup, {"group": "x"}, board.share, "a", "x")
        self.refused(NoPerson, {"person": "z"}, board.leave, "a", "z")
        self.refused(NoGroup, {"group": "p"}, board.get, "p", "p")
        self.refused(NoPerson, {"person": "a"}, board.get, "a", "a")


class Undo(BoardTest):
    def test_each_kind_of_deed(self):
        for word, names in (("send", ("b",)), ("get", ("p", "a")), ("share", ("b", "c")), ("join", ("b", "z")),
                            ("join", ("b", "p")), ("leave", ("b", "q")), ("leave", ("b", "r")), ("share", ("b", "b"))):
            board = Board(RING)
            board.send("a")
            before = board.twin()
            getattr(board, word)(*names)
            self.assertEqual(len(board), 2)
            self.assertIsNone(board.undo())
            self.assertTrue(board == before)
            self.assertEqual(len(board), 1)
            getattr(board, word)(*names)
            board.undo()
            board.undo()
            self.assertTrue(board == Board(RING))
            self.refused(NothingDone, {}, board.undo)

    def test_deeds_behind_undone_ones(self):
        board = Board(RING)
        board.send("a")
        board.send("b")
        board.undo()
        board.send("c")
        self.assertEqual((board.sent(), len(board)), ((("a", 1), ("c", 1)), 2))
        board.undo()
        self.assertEqual(board.sent(), (("a", 1),))
        board.undo()
        self.assertEqual(board.sent(), ())
        # What raises is no deed, and does not stand in the way.
        board.send("a")
        self.refused(Unfit, {}, board.get, "q", "a")
        self.refused(NoGroup, {"group": "x"}, board.send, "x")
        board.undo()
        self.assertEqual(len(board), 0)


class Alike(BoardTest):
    def test_equal(self):
        one, other = Board(RING), Board(RING)
        self.assertIs(one == other, True)
        self.assertIs(one != other, False)
        one.send("a")
        self.assertIs(one == other, False)
        self.assertIs(one != other, True)
        other.send("a")
        self.assertTrue(one == other)
        # How it came about does not matter.
        other.send("b")
        other.undo()
        other.join("b", "p")
        self.assertTrue(one == other)
        self.assertEqual((len(one), len(other)), (1, 2))

    def test_what_must_be_the_same(self):
        def done(*deeds, book=RING):
            board = Board(book)
            for word, *names in deeds:
                getattr(board, word)(*names)
            return board

        boards = [
            done(), done(book=ROW), done(("share", "a", "b")), done(("share", "a", "c")), done(("join", "a", "q")),
            done(("send", "a")), done(("send", "b")), done(("send", "a"), ("send", "b")), done(("send", "b"), ("send", "a")),
            done(("send", "a"), ("get", "p", "a")), done(("send", "a"), ("get", "r", "a")),
            done(("send", "a"), ("send", "b"), ("get", "p", "a"), ("get", "p", "b")),
            done(("send", "a"), ("send", "b"), ("get", "p", "b"), ("get", "p", "a")),
        ]
        for at, one in enumerate(boards):
            for place, other in enumerate(boards):
                self.assertIs(one == other, at == place)
                self.assertIs(one != other, at != place)
        # In which order people got their LETTERS is in nobody's row.
        one = done(("send", "a"), ("send", "b"), ("get", "p", "a"), ("get", "r", "a"))
        other = done(("send", "a"), ("send", "b"), ("get", "r", "a"), ("get", "p", "a"))
        self.assertTrue(one == other)

    def test_things_that_are_no_boards(self):
        board = Board(RING)
        for thing in (None, 0, 1, "", RING, [], (), True, object(), Plain(RING), board.rows(), (RING,)):
            self.assertIs(board == thing, False)
            self.assertIs(board != thing, True)
            self.assertIs(thing == board, False)

    def test_iteration(self):
        for board in (Board(RING), Board(ROW)):
            board.send("a")
            with self.assertRaises(TypeError):
                iter(board)
            with self.assertRaises(TypeError):
                list(board)
            with self.assertRaises(TypeError):
                for _ in board:
                    pass

    def test_twin(self):
        draw = random.Random(330)
        for book in BOOKS[:30]:
            board, plain = Board(book), Plain(book)
            for _ in range(20):
                self.do(board, plain, *drawn_deed(draw, plain))
            twin, own = board.twin(), copy.deepcopy(plain)
            self.assertIs(type(twin), Board)
            self.assertIsNot(twin, board)
            self.assertTrue(twin == board and board == twin)
            self.assertEqual(len(twin), len(board))
            for _ in range(15):
                self.do(twin, own, *drawn_deed(draw, own))
                self.do(board, plain, *drawn_deed(draw, plain))
            self.alike(twin, own)
            self.alike(board, plain)
            for both in ((twin, own), (board, plain)):
                while both[1].deeds:
                    self.do(*both, "undo", ())
                self.alike(*both)
            self.assertTrue(twin == board)

    def test_twin_of_a_new_board(self):
        board = Board(RING)
        twin = board.twin()
        twin.send("a")
        self.assertEqual((len(board), len(twin), board.sent()), (0, 1, ()))
        self.refused(NothingDone, {}, board.undo)


class Calls(BoardTest):
    def test_lists_in_the_place_of_tuples(self):
        for book in BOOKS:
            lists = [[group, list(members)] for group, members in book]
            kept = copy.deepcopy(lists)
            board = Board(lists)
            self.assertTrue(board == Board(book))
            self.assertEqual(board.book(), book)
            # What was handed in is copied.
            lists[0][1].append("zzz")
            lists.append(["zz", ["p"]])
            self.assertEqual(board.book(), book)
            board.join(book[0][0], "new")
            lists[0][1].pop()
            lists.pop()
            self.assertEqual(lists, kept)

    def test_by_names(self):
        board = Board(book=RING)
        self.assertEqual(board.send(group="a"), 1)
        self.assertEqual(board.waiting(person="p"), (("a", 1),))
        self.assertEqual(board.can_get(person="p"), (("a", 1),))
        self.assertEqual(board.get(group="a", person="p"), 1)
        self.assertIsNone(board.share(other="b", one="c"))
        self.assertIsNone(board.join(person="z", group="b"))
        self.assertIsNone(board.leave(person="z", group="b"))
        self.assertEqual(len(board), 5)

    def test_looks_change_nothing(self):
        draw = random.Random(331)
        for book in BOOKS[:20]:
            board, plain = Board(book), Plain(book)
            for _ in range(15):
                self.do(board, plain, *drawn_deed(draw, plain))
            twin = board.twin()
            for look in LOOKS:
                self.assertEqual(getattr(board, look)(), getattr(board, look)())
            for person in reading.crowd(plain.book()):
                self.assertEqual(board.waiting(person), board.waiting(person))
                self.assertEqual(board.can_get(person), board.can_get(person))
            self.assertTrue(board == twin)
            self.assertEqual(len(board), len(twin))

    def test_all_is_told_in_tuples(self):
        board = Board([["a", ["p", "q"]], ["b", ["q"]]])
        board.send("a")
        board.get("p", "a")
        for told in (board.book(), board.classes(), board.sent(), board.rows(), board.waiting("q"), board.can_get("q")):
            self.assertIs(type(told), tuple)
            hash(told)

    def test_methods_stand_in_the_class_itself(self):
        names = {
            "book": (), "classes": (), "sent": (), "rows": (), "waiting": ("person",), "can_get": ("person",),
            "is_round": (), "is_calm": (), "run": (), "send": ("group",), "get": ("person", "group"),
            "share": ("one", "other"), "join": ("group", "person"), "leave": ("group", "person"), "undo": (), "twin": (),
            "__init__": ("book",), "__len__": (), "__eq__": ("other",),
        }
        for name, parameters in names.items():
            method = vars(Board)[name]
            self.assertTrue(inspect.isfunction(method))
            self.assertEqual(tuple(inspect.signature(method).parameters)[1:], parameters)
        self.assertEqual((Board.__module__, Board.__bases__), ("orderrings.board", (object,)))


class Told(BoardTest):
    def test_rounds_so_far(self):
        """LETTERS can be seen round although not everybody got them all."""
        board = Board(RING)
        for group in "abc":
            board.send(group)
        for person, group in (("p", "a"), ("p", "b"), ("q", "b"), ("q", "c"), ("r", "c")):
            board.get(person, group)
            self.assertIs(board.is_round(), False)
        board.get("r", "a")
        self.assertIs(board.is_round(), True)
        board.send("a")
        self.assertEqual((board.is_round(), board.run()), (True, None))

    def test_two_blocks(self):
        for book in (BOW, KNOT, SQUARE):
            board = Board(book)
            self.assertIs(board.is_calm(), False)
            for some in classes.finest_right(book):
                for group in some[1:]:
                    board.share(some[0], group)
            self.assertIs(board.is_calm(), True)

    def test_nothing_sent(self):
        for book in TOLD_BOOKS + (FULL,):
            board = Board(book)
            nothing = tuple((name, ()) for name in reading.crowd(book))
            self.assertEqual((board.book(), board.sent(), board.rows(), board.run()), (book, (), nothing, nothing))
            self.assertEqual(board.classes(), tuple((group,) for group, _ in book))
            self.assertEqual((board.is_round(), len(board)), (False, 0))


if __name__ == "__main__":
    unittest.main()
