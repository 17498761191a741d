"""[11]: trees of people, against all trees, all sets of people and all belts of small books."""

import functools
import itertools
import random
import unittest

import reading
from checking import Refusing
from drawing import APART, BOW, CHAIN, CIRCLE, FULL, KNOT, LONE, NAMES, RING, ROW, SAME, SQUARE, THINGS, TOLD_BOOKS
from drawing import all_letters, bent, circle_books, drawn_book, drawn_books, drawn_numbers, drawn_row, drawn_run, drawn_tree
from drawing import thick_books, thin_books, wild_run
from orderrings import trees
from orderrings.errors import NoGroup, NoPerson, Unfit

BOOKS = tuple(
    book for book in drawn_books(201, 40, 5, 5) + thick_books(202, 20) + thin_books(203, 40) + circle_books(204, 30)
    if len(reading.crowd(book)) < 6
)
SMALL_BOOKS = tuple(book for book in BOOKS if len(reading.crowd(book)) < 5)
DRAWN_GREAT = tuple(drawn_book(random.Random(seed), 8, 8) for seed in range(2050, 2070))
GREAT_BOOKS = (FULL, APART, CIRCLE, CHAIN) + DRAWN_GREAT
# All groups are chains along s t u v w, so that there are TREES without strangers.
COMB = (("a", ("s", "t", "u")), ("b", ("t", "u", "v")), ("c", ("u", "v", "w")), ("d", ("s", "t")), ("e", ("w",)))
# Two people are in no group with anybody else, so ties of nobody's groups are needed.
LOOSE = (("a", ("p",)), ("b", ("q",)), ("c", ("r", "s")))
RINGED = (("g", ("a", "b", "c")), ("h", ("c", "d")), ("k", ("a", "d")))


def all_ties(book):
    return list(itertools.combinations(reading.crowd(book), 2))


def hanging(names, ties):
    """These people parted into those that hang together by these ties among themselves."""
    sets = [{name} for name in names]
    for one, other in ties:
        if one in names and other in names:
            touched = [some for some in sets if one in some or other in some]
            sets = [some for some in sets if some not in touched] + [set().union(*touched)]
    return tuple(sorted(tuple(sorted(some)) for some in sets))


@functools.lru_cache(maxsize=None)
def all_trees(book):
    """ALL TREES, ascending."""
    crowd = reading.crowd(book)
    sets = itertools.combinations(all_ties(book), len(crowd) - 1)
    return [ties for ties in sets if len(hanging(crowd, ties)) == 1]


def passers(book, tree, group):
    members = set(reading.unordered(book)[group])
    sets = [some for some in reading.subsets(reading.crowd(book)) if members <= set(some) and len(hanging(some, tree)) == 1]
    few = [some for some in sets if len(some) == len(sets[0])]
    assert len(few) == 1
    return few[0]


def strangers(book, tree, group):
    return tuple(name for name in passers(book, tree, group) if name not in reading.unordered(book)[group])


def pieces(book, tree, group):
    return hanging(sorted(reading.unordered(book)[group]), tree)


@functools.lru_cache(maxsize=None)
def many_strangers(book, tree):
    return sum(len(strangers(book, tree, group)) for group, _ in book)


@functools.lru_cache(maxsize=None)
def many_pieces(book, tree):
    return sum(len(pieces(book, tree, group)) for group, _ in book)


@functools.lru_cache(maxsize=None)
def best(book):
    few = min(many_pieces(book, tree) for tree in all_trees(book))
    return [tree for tree in all_trees(book) if many_pieces(book, tree) == few]


def is_tree(book, thing):
    if type(thing) is not tuple or len(thing) != len(reading.crowd(book)) - 1:
        return False
    for pair in thing:
        if type(pair) is not tuple or len(pair) != 2 or any(type(name) is not str for name in pair):
            return False
        if pair[0] not in reading.crowd(book) or pair[1] not in reading.crowd(book) or pair[0] >= pair[1]:
            return False
    if list(thing) != sorted(set(thing)):
        return False
    return len(hanging(reading.crowd(book), thing)) == 1


def belt_letters(book, tree, run):
    """For each person the LETTERS that ought to be on the belt."""
    passing = {group: passers(book, tree, group) for group, _ in book}
    return {name: [letter for letter in reading.letters_in(run) if name in passing[letter[0]]] for name in reading.crowd(book)}


def fits_row(book, person, belt, row):
    own = [group for group, members in book if person in members]
    return tuple(letter for letter in belt if letter[0] in own) == row


def stand_alike(one, other):
    both = set(one) & set(other)
    return [letter for letter in one if letter in both] == [letter for letter in other if letter in both]


def are_belts(book, tree, run, thing):
    """Whether thing is BELTS, by the words of the document."""
    if type(thing) is not tuple or any(type(pair) is not tuple or len(pair) != 2 for pair in thing):
        return False
    if [pair[0] for pair in thing] != reading.crowd(book):
        return False
    letters, rows = belt_letters(book, tree, run), dict(run)
    for person, belt in thing:
        if type(belt) is not tuple or not all(reading.is_letter(letter) for letter in belt):
            return False
        if sorted(belt) != letters[person] or not fits_row(book, person, belt, rows[person]):
            return False
    belts = dict(thing)
    return all(stand_alike(belts[one], belts[other]) for one, other in tree)


def all_belts(book, tree, run):
    """All BELTS, found person by person among all orders of their LETTERS."""
    letters, rows = belt_letters(book, tree, run), dict(run)
    found = [()]
    for person in reading.crowd(book):
        orders = [belt for belt in itertools.permutations(letters[person]) if fits_row(book, person, belt, rows[person])]
        found = [
            belts + ((person, belt),)
            for belts in found
            for belt in orders
            if all(stand_alike(other, belt) for name, other in belts if (name, person) in tree)
        ]
    return found


class IsTree(unittest.TestCase):
    def test_all_sets_of_ties(self):
        for book in SMALL_BOOKS:
            every = all_trees(book)
            for ties in reading.subsets(all_ties(book)):
                self.assertIs(trees.is_tree(book, ties), ties in every)
            many = len(reading.crowd(book))
            # Cayley: so many trees have many people.
            self.assertEqual(len(every), many ** (many - 2) if many > 1 else 1)

    def test_bent_ones(self):
        draw = random.Random(206)
        told = {True: 0, False: 0}
        for book in BOOKS:
            few = min(many_strangers(book, tree) for tree in all_trees(book))
            for tree in draw.sample(all_trees(book), min(3, len(all_trees(book)))):
                for thing in bent(draw, tree):
                    right = is_tree(book, thing)
                    told[right] += 1
                    self.assertIs(trees.is_tree(book, thing), right, thing)
                    best_one = right and thing in best(book)
                    self.assertIs(trees.is_best_tree(book, thing), best_one)
                    self.assertIs(trees.is_plain_tree(book, thing), right and not many_strangers(book, thing))
                    if told[right] % 6 == 1:
                        self.assertIs(trees.is_quiet_tree(book, thing), right and many_strangers(book, thing) == few)
        self.assertGreater(told[False], 4000)
        self.assertGreater(told[True], 30)

    def test_things_of_all_kinds(self):
        for thing in THINGS:
            for bent_thing in (thing, (thing,), (("p", "q"), thing), (("p", "q"), ("q", thing)), (("p", thing), ("q", "r")),
                               (thing, ("q", "r")), (("p", "q"), ("q", "r"), thing)):
                for book in (RING, LONE, SAME):
                    right = is_tree(book, bent_thing)
                    for call in (trees.is_tree, trees.is_best_tree, trees.is_quiet_tree):
                        self.assertIs(call(book, bent_thing), right and (call is trees.is_tree or bent_thing in best(book)))
        self.assertIs(trees.is_tree(LONE, ()), True)
        self.assertIs(trees.is_tree(RING, ()), False)
        self.assertIs(trees.is_tree(LONE, []), False)

    def test_eight_people(self):
        crowd = tuple("pqrstuvw")
        line, star = tuple(zip(crowd, crowd[1:])), tuple(("p", name) for name in crowd[1:])
        for book in (FULL, APART, CIRCLE, CHAIN):
            self.assertIs(trees.is_tree(book, line), True)
            self.assertIs(trees.is_tree(book, star), True)
            self.assertIs(trees.is_tree(book, line[:-1] + (("p", "r"),)), False)
            self.assertIs(trees.is_tree(book, tuple(sorted(line[:-1] + (("p", "r"),)))), False)
            self.assertIs(trees.is_tree(book, tuple(sorted(line[:-1] + (("p", "w"),)))), True)
            self.assertIs(trees.is_tree(book, line + (("p", "w"),)), False)


class Along(Refusing):
    def each(self):
        draw = random.Random(207)
        for book in BOOKS + (COMB, LOOSE):
            for tree in draw.sample(all_trees(book), min(12, len(all_trees(book)))):
                yield book, tree
        for book in GREAT_BOOKS:
            for _ in range(3):
                yield book, drawn_tree(draw, book)

    def test_against_a_plain_reading(self):
        some = 0
        for book, tree in self.each():
            self.assertIs(trees.is_tree(book, tree), True)
            told = [0, 0]
            for group, _ in book:
                self.assertEqual(trees.passers(book, tree, group), passers(book, tree, group))
                self.assertEqual(trees.strangers(book, tree, group), strangers(book, tree, group))
                self.assertEqual(trees.pieces(book, tree, group), pieces(book, tree, group))
                told[0] += len(strangers(book, tree, group))
                told[1] += len(pieces(book, tree, group))
            some += told[0] > 1
            self.assertEqual([trees.all_strangers(book, tree), trees.all_pieces(book, tree)], told)
        self.assertGreater(some, 100)

    def test_pieces_by_ties(self):
        for book, tree in self.each():
            saved = sum(1 for _, members in book for one, other in tree if one in members and other in members)
            self.assertEqual(trees.all_pieces(book, tree), len(reading.ties(book)) - saved)

    def test_no_group(self):
        for call in (trees.passers, trees.strangers, trees.pieces):
            self.refused(NoGroup, {"group": "p"}, call, RING, (("p", "q"), ("q", "r")), "p")
            for book, tree in list(self.each())[:80]:
                for group in NAMES + ("", "A"):
                    if group not in reading.unordered(book):
                        self.refused(NoGroup, {"group": group}, call, book, tree, group)

    def test_groups_with(self):
        for book in BOOKS + GREAT_BOOKS:
            table = reading.unordered(book)
            for one, other in itertools.permutations(reading.crowd(book), 2):
                expected = tuple(group for group in sorted(table) if {one, other} <= table[group])
                self.assertEqual(trees.groups_with(book, one, other), expected)

    def test_groups_with_refused(self):
        for book in BOOKS:
            crowd = reading.crowd(book)
            for one, other in itertools.product(NAMES[:8], repeat=2):
                nobody = [name for name in (one, other) if name not in crowd]
                if nobody:
                    self.refused(NoPerson, {"person": nobody[0]}, trees.groups_with, book, one, other)
                elif one == other:
                    self.refused(Unfit, {}, trees.groups_with, book, one, other)
        self.refused(NoPerson, {"person": "z"}, trees.groups_with, RING, "z", "z")
        self.refused(NoPerson, {"person": "a"}, trees.groups_with, RING, "a", "z")


class Best(unittest.TestCase):
    def test_against_all_trees(self):
        sizes = []
        for book in BOOKS + (COMB, LOOSE, RINGED):
            few = best(book)
            sizes.append(len(few))
            self.assertEqual(trees.fewest_pieces(book), many_pieces(book, few[0]))
            self.assertIn(trees.a_best_tree(book), few)
            found = trees.best_trees(book)
            self.assertIs(type(found), list)
            self.assertEqual(found, few)
            ties = all_ties(book)
            self.assertEqual(trees.surely_tied(book), tuple(tie for tie in ties if all(tie in tree for tree in few)))
            self.assertEqual(trees.maybe_tied(book), tuple(tie for tie in ties if any(tie in tree for tree in few)))
            for tree in all_trees(book):
                self.assertIs(trees.is_best_tree(book, tree), tree in few)
        self.assertGreater(len(set(sizes)), 8)

    def weight(self, book, ties, sure=()):
        """The greatest sum that a TREE with these sure ties and else of ties can have; None if there is none."""
        worth = {tie: sum(1 for _, members in book if set(tie) <= set(members)) for tie in all_ties(book)}
        found = list(sure)
        for tie in sorted(ties, key=lambda tie: -worth[tie]):
            if len(hanging(reading.crowd(book), found + [tie])) < len(hanging(reading.crowd(book), found)):
                found.append(tie)
        return sum(worth[tie] for tie in found) if len(hanging(reading.crowd(book), found)) == 1 else None

    def test_great_books(self):
        for book in GREAT_BOOKS:
            ties = all_ties(book)
            most = self.weight(book, ties)
            self.assertEqual(trees.fewest_pieces(book), len(reading.ties(book)) - most)
            tree = trees.a_best_tree(book)
            self.assertIs(is_tree(book, tree), True)
            self.assertEqual(sum(len(pieces(book, tree, group)) for group, _ in book), len(reading.ties(book)) - most)
            self.assertIs(trees.is_best_tree(book, tree), True)
            self.assertEqual(trees.surely_tied(book), tuple(
                tie for tie in ties if self.weight(book, [other for other in ties if other != tie]) != most
            ))
            self.assertEqual(trees.maybe_tied(book), tuple(tie for tie in ties if self.weight(book, ties, [tie]) == most))
            # Any two ties exchanged leave a worse TREE or another best one.
            for tie, other in itertools.product(tree, ties):
                thing = tuple(sorted([one for one in tree if one != tie] + [other]))
                if is_tree(book, thing):
                    fewer = sum(len(pieces(book, thing, group)) for group, _ in book) == len(reading.ties(book)) - most
                    self.assertIs(trees.is_best_tree(book, thing), fewer)

    def test_told_ones(self):
        ties = tuple(all_ties(FULL))
        self.assertEqual((trees.fewest_pieces(FULL), trees.surely_tied(FULL), trees.maybe_tied(FULL)), (8, (), ties))
        self.assertEqual((trees.fewest_pieces(APART), trees.surely_tied(APART), trees.maybe_tied(APART)), (8, (), ties))
        line = tuple(zip("pqrstuv", "qrstuvw"))
        self.assertEqual((trees.fewest_pieces(CHAIN), trees.surely_tied(CHAIN), trees.maybe_tied(CHAIN)), (7, line, line))
        self.assertEqual((trees.a_best_tree(CHAIN), trees.plain_tree(CHAIN)), (line, line))
        self.assertEqual((trees.fewest_pieces(CIRCLE), trees.surely_tied(CIRCLE)), (9, ()))
        self.assertEqual(trees.maybe_tied(CIRCLE), tuple(sorted(line + (("p", "w"),))))
        self.assertEqual((trees.a_best_tree(LONE), trees.best_trees(LONE), trees.fewest_pieces(LONE)), ((), [()], 1))
        self.assertEqual((trees.surely_tied(LONE), trees.maybe_tied(LONE)), ((), ()))

    def test_five_people(self):
        book = tuple((group, tuple("pqrst")) for group in "abcdefgh")
        self.assertEqual(trees.best_trees(book), all_trees(book))
        self.assertEqual(len(trees.best_trees(book)), 125)
        self.assertEqual(trees.best_trees(COMB), best(COMB))


class Strangers(unittest.TestCase):
    def test_against_all_trees(self):
        draw = random.Random(212)
        plain, loud = 0, 0
        for book in BOOKS + (COMB, LOOSE, RINGED):
            few = min(many_strangers(book, tree) for tree in all_trees(book))
            self.assertEqual(trees.fewest_strangers(book), few)
            self.assertEqual(many_strangers(book, trees.quiet_tree(book)), few)
            for tree in draw.sample(all_trees(book), min(12, len(all_trees(book)))):
                self.assertIs(trees.is_quiet_tree(book, tree), many_strangers(book, tree) == few)
                self.assertIs(trees.is_plain_tree(book, tree), many_strangers(book, tree) == 0)
            tree = trees.plain_tree(book)
            plain, loud = plain + (few == 0), loud + (few > 0)
            if few == 0:
                self.assertIn(tree, all_trees(book))
                self.assertEqual(many_strangers(book, tree), 0)
            else:
                self.assertIsNone(tree)
        self.assertGreater(plain, 30)
        self.assertGreater(loud, 10)

    def test_plain_trees_by_the_sum(self):
        for book in BOOKS + GREAT_BOOKS:
            ties = all_ties(book)
            most = Best.weight(self, book, ties)
            tree = trees.plain_tree(book)
            self.assertIs(tree is not None, most == len(reading.ties(book)) - len(book))
            if tree is not None:
                self.assertIs(is_tree(book, tree), True)
                self.assertEqual(sum(len(strangers(book, tree, group)) for group, _ in book), 0)
                self.assertIs(trees.is_plain_tree(book, tree), True)

    def test_told_ones(self):
        for book in (FULL, APART, CHAIN, COMB, LONE, LOOSE, ROW):
            self.assertIs(trees.is_plain_tree(book, trees.plain_tree(book)), True)
        for book in (CIRCLE, RING, SQUARE):
            self.assertIsNone(trees.plain_tree(book))
        self.assertEqual(trees.fewest_strangers(RING), 1)
        self.assertEqual(trees.fewest_strangers(COMB), 0)
        self.assertEqual(trees.quiet_tree(LONE), ())
        five = tuple((group, (one, other)) for group, (one, other) in zip("abcdefgh", itertools.combinations("pqrst", 2)))
        self.assertEqual(trees.fewest_strangers(five), min(many_strangers(five, tree) for tree in all_trees(five)))


class Belts(unittest.TestCase):
    def small(self):
        """Triples (BOOK, TREE, RUN) of which all BELTS are listed."""
        draw = random.Random(208)
        for book in SMALL_BOOKS * 4 + (RINGED, RING) * 20:
            numbers = drawn_numbers(draw, book, 5)
            tree = draw.choice(all_trees(book))
            yield book, tree, draw.choice((drawn_run, wild_run))(draw, book, numbers)
        for tree in all_trees(RING):
            for run in reading.runs(RING, (1, 1, 1)) + reading.runs(RING, (2, 1, 1)):
                yield RING, tree, run

    def test_against_all_belts(self):
        told, many = {True: 0, False: 0}, 0
        for book, tree, run in self.small():
            every = all_belts(book, tree, run)
            told[bool(every)] += 1
            many += len(every) > 1
            self.assertIs(trees.comes_by(book, tree, run), bool(every))
            belts = trees.belts_for(book, tree, run)
            if every:
                self.assertIn(belts, every)
                self.assertTrue(all(trees.are_belts(book, tree, run, other) is True for other in every[:20]))
            else:
                self.assertIsNone(belts)
            # Guarantee: just the RUNS without a RING.
            self.assertIs(bool(every), not reading.has_ring(run))
        self.assertGreater(min(told.values()), 30)
        self.assertGreater(many, 20)

    def test_rows_that_are_no_belts(self):
        draw = random.Random(209)
        told = {True: 0, False: 0}
        for book, tree, run in list(self.small())[::3]:
            letters = belt_letters(book, tree, run)
            for _ in range(12):
                thing = tuple((name, tuple(draw.sample(letters[name], len(letters[name])))) for name in reading.crowd(book))
                right = are_belts(book, tree, run, thing)
                told[right] += 1
                self.assertIs(trees.are_belts(book, tree, run, thing), right)
        self.assertGreater(min(told.values()), 100)

    def test_bent_ones(self):
        draw = random.Random(210)
        told = {True: 0, False: 0}
        for book, tree, run in list(self.small())[:70]:
            belts = trees.belts_for(book, tree, run) or tuple(run)
            for thing in bent(draw, belts):
                right = are_belts(book, tree, run, thing)
                told[right] += 1
                self.assertIs(trees.are_belts(book, tree, run, thing), right, thing)
        self.assertGreater(told[False], 4000)
        self.assertGreater(told[True], 20)

    def test_things_of_all_kinds(self):
        tree, run = (("p", "q"), ("q", "r")), reading.runs(RING, (1, 1, 1))[0]
        belts = trees.belts_for(RING, tree, run)
        for thing in THINGS:
            for bent_thing in (thing, (thing,), belts[:2] + (thing,), belts[:2] + (("r", thing),), belts + (thing,),
                               belts[:2] + (("r", belts[2][1][:-1] + (thing,)),), belts[:2] + ((thing, belts[2][1]),)):
                self.assertIs(trees.are_belts(RING, tree, run, bent_thing), are_belts(RING, tree, run, bent_thing))
        self.assertIs(trees.are_belts(LONE, (), (("a", (("a", 1),)),), (("a", (("a", True),)),)), False)
        self.assertIs(trees.are_belts(LONE, (), (("a", (("a", 1),)),), (("a", (("a", 1),)),)), True)

    def test_24_letters(self):
        draw = random.Random(211)
        told = {True: 0, False: 0}
        for book in GREAT_BOOKS + (RINGED, BOW, KNOT):
            crowd = reading.crowd(book)
            for wild in (False, True):
                numbers = drawn_numbers(draw, book, 24)
                letters = drawn_row(draw, all_letters(book, numbers))
                table = reading.unordered(book)
                run = tuple((name, tuple(one for one in letters if name in table[one[0]])) for name in crowd)
                run = wild_run(draw, book, numbers) if wild else run
                tree = drawn_tree(draw, book)
                right = not reading.has_ring(run)
                told[right] += 1
                self.assertIs(trees.comes_by(book, tree, run), right)
                belts = trees.belts_for(book, tree, run)
                if right:
                    self.assertIs(are_belts(book, tree, run, belts), True)
                    self.assertIs(trees.are_belts(book, tree, run, belts), True)
                else:
                    self.assertIsNone(belts)
        self.assertGreater(min(told.values()), 5)

    def test_no_letters(self):
        for book in TOLD_BOOKS + GREAT_BOOKS:
            run = tuple((name, ()) for name in reading.crowd(book))
            tree = trees.a_best_tree(book)
            self.assertIs(trees.comes_by(book, tree, run), True)
            self.assertEqual(trees.belts_for(book, tree, run), run)
            self.assertIs(trees.are_belts(book, tree, run, run), True)
            self.assertIs(trees.are_belts(book, tree, run, list(run)), False)


if __name__ == "__main__":
    unittest.main()
