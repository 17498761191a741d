"""[1]: what the document promises over several of its points, asked of the whole program from outside."""

import itertools
import random
import unittest

import reading
from drawing import APART, CHAIN, CIRCLE, FULL, TOLD_BOOKS
from drawing import circle_books, drawn_book, drawn_books, drawn_numbers, drawn_run, drawn_tree, thick_books, thin_books
from drawing import wild_run
from orderrings import asked, books, classes, desk, judged, leaving, rings, runs, some, terms, texts, trees, waits, webs
from orderrings.board import Board

BOOKS = drawn_books(381, 40) + thick_books(382, 12) + thin_books(383, 30) + circle_books(384, 25)
GREAT_BOOKS = (FULL, APART, CIRCLE, CHAIN) + tuple(drawn_book(random.Random(seed), 8, 8) for seed in range(3850, 3862))
ALL_BOOKS = BOOKS + GREAT_BOOKS


def class_book(book, sets):
    """The BOOK whose groups are these classes, each by its least NAME."""
    table = reading.unordered(book)
    return reading.as_book({own[0]: set().union(*[table[group] for group in own]) for own in sets})


def as_terms(book):
    """TERMS of all MEMBERSHIPS, from the first LETTER on and on."""
    return tuple((group, person, 1, None) for group, person in books.memberships(book))


def drawn_pairs(seed, many_books=BOOKS, most=8):
    """Triples (BOOK, RUN, TREE)."""
    draw = random.Random(seed)
    for book in many_books:
        for call in (drawn_run, wild_run):
            yield book, call(draw, book, drawn_numbers(draw, book, most)), drawn_tree(draw, book)


class Rounds(unittest.TestCase):
    """(a): all that says whether people and groups hang together without a ROUND says the same."""

    def test_one_answer(self):
        told = {True: 0, False: 0}
        for book in ALL_BOOKS:
            right = webs.has_round(book)
            told[right] += 1
            crowd, names = books.people(book), books.groups(book)
            self.assertIs(rings.can_ring(book), right)
            self.assertIs(rings.can_ring_of(book, names), right)
            self.assertIs(webs.shortest_round(book) is not None, right)
            self.assertIs(len(webs.bridges(book)) < len(books.memberships(book)), right)
            self.assertIs(bool(rings.tight_sets(book)), right)
            self.assertIs(rings.quiet_sets(book) != (names,), right)
            self.assertIs(classes.are_right(book, classes.lone_classes(book)), not right)
            self.assertIs(classes.finest_right(book) != classes.lone_classes(book), right)
            self.assertIs(leaving.is_mended(book, ()), not right)
            self.assertIs(leaving.fewest_ends(book) > 0, right)
            self.assertIs(leaving.least_closed(book) != (), right)
            self.assertIs(leaving.least_gone(book) != (), right)
            self.assertIs(some.surely_agree(book, crowd), not right)
            self.assertIs(some.fewest_sets(book) > 1, right)
            self.assertIs(bool(some.quarrels(book)), right)
            self.assertIs(some.quarrel_run(book, crowd) is not None, right)
            self.assertIs(bool(waits.needed_waits(book)), right)
            self.assertIs(waits.are_enough_waits(book, ()), not right)
            self.assertIs(waits.ring_in_spite(book, ()) is not None, right)
            self.assertIs(terms.can_loop(as_terms(book)), right)
            self.assertIs(asked.can_be_refuted(book, classes.one_class(book)), right)
            self.assertIs(Board(book).is_calm(), not right)
            self.assertEqual(desk.replies(book, "calm"), ["no" if right else "yes"])
        self.assertGreater(min(told.values()), 30)

    def test_how_many_woven(self):
        draw = random.Random(385)
        for book in BOOKS:
            numbers = drawn_numbers(draw, book, 7)
            many = runs.how_many_runs(book, numbers)
            self.assertLessEqual(runs.how_many_woven(book, numbers), many)
            way = webs.shortest_round(book)
            if way is None:
                self.assertEqual(runs.how_many_woven(book, numbers), many)
            else:
                numbers = tuple(1 if group in way[0::2] else 0 for group in books.groups(book))
                self.assertLess(runs.how_many_woven(book, numbers), runs.how_many_runs(book, numbers))

    def test_a_book_and_the_turned_book(self):
        for book in ALL_BOOKS:
            turned = books.turned(book)
            self.assertEqual(books.turned(turned), book)
            self.assertIs(webs.has_round(turned), webs.has_round(book))
            self.assertEqual(leaving.fewest_ends(turned), leaving.fewest_ends(book))
            self.assertEqual(leaving.ways_to_end(turned), leaving.ways_to_end(book))
            self.assertEqual(
                webs.blocks(turned),
                tuple(sorted(tuple(sorted((person, group) for group, person in block)) for block in webs.blocks(book))),
            )
            self.assertEqual(len(books.parts(turned)), len(books.parts(book)))
            self.assertEqual(leaving.least_gone(turned), leaving.least_closed(book))
            one, other = webs.shortest_round(book), webs.shortest_round(turned)
            self.assertEqual(one and len(one), other and len(other))
        for book in BOOKS:
            if len(books.memberships(book)) < 17:
                turned = books.turned(book)
                ways = [webs.round_from(turned, way[1:] + way[:1]) for way in webs.rounds(book)]
                self.assertEqual(sorted(ways), webs.rounds(turned))

    def test_rounds_that_join(self):
        for book in BOOKS:
            for group, person in itertools.product(books.groups(book), books.people(book)):
                more = books.with_member(book, group, person)
                calm = not webs.is_on_round(more, group, person)
                self.assertIs(leaving.can_join(book, group, person), calm)
                if calm:
                    self.assertEqual(len(webs.bridges(more)) - len(webs.bridges(book)), more != book)


class Classes(unittest.TestCase):
    """(b): one finest way to share orderers."""

    def test_finest_classes_for_groups(self):
        shared = 0
        for book in ALL_BOOKS:
            finest = classes.finest_right(book)
            shared += 1 < len(finest) < len(book)
            joined = class_book(book, finest)
            self.assertIs(books.is_book(joined), True)
            self.assertIs(webs.has_round(joined), False)
            self.assertEqual(books.people(joined), books.people(book))
            # Parts as before.
            class_of = {group: own[0] for own in finest for group in own}
            parts = tuple(sorted(tuple(sorted(set(class_of[group] for group in part))) for part in books.parts(book)))
            self.assertEqual(books.parts(joined), parts)
        self.assertGreater(shared, 15)

    def test_one_group_less_in_a_class(self):
        for book in ALL_BOOKS:
            finest = classes.finest_right(book)
            for own in finest:
                for group in own if len(own) > 1 else ():
                    left = tuple(other for other in own if other != group)
                    less = tuple(sorted(tuple(other for other in finest if other != own) + (left, (group,))))
                    self.assertIs(classes.is_classes(book, less), True)
                    self.assertIs(classes.are_right(book, less), False)
                    self.assertIsNotNone(classes.split_round(book, less))
                    board = Board(book)
                    for sets in less:
                        for other in sets:
                            board.share(sets[0], other)
                    self.assertEqual((board.classes(), board.is_calm()), (less, False))

    def test_right_classes_are_calm_on_a_board(self):
        draw = random.Random(386)
        for book in BOOKS:
            sets = classes.nth_right(book, draw.randrange(classes.how_many_right(book)))
            board = Board(book)
            for own in sets:
                for group in own:
                    board.share(group, own[0])
            self.assertEqual(board.classes(), sets)
            self.assertIs(board.is_calm(), True)
            for _ in range(6):
                board.send(draw.choice(books.groups(book)))
            while board.run() is None:
                person = draw.choice([name for name in books.people(book) if board.waiting(name)])
                board.get(person, draw.choice(board.can_get(person))[0])
            run = board.run()
            self.assertIs(runs.is_run(book, run), True)
            self.assertIs(classes.keeps_classes(book, sets, run), True)
            self.assertIn(sets, asked.classes_kept(book, run))
            self.assertEqual((board.is_round(), judged.a_ring(run)), (False, None))

    def test_hidden_classes_told_back(self):
        draw = random.Random(387)
        for book in ALL_BOOKS:
            sets = classes.nth_right(book, draw.randrange(classes.how_many_right(book)))
            told = asked.told_classes(book, lambda one, other: any(one in own and other in own for own in sets))
            self.assertEqual(told, sets)
            answers = asked.showing_answers(book, sets)
            self.assertEqual((asked.how_many_answer(book, answers), asked.asks_left(book, answers)), (1, 0))
            self.assertEqual(asked.surely_one(book, ()), classes.must_join(book))
            self.assertEqual(asked.how_many_answer(book, ()), classes.how_many_right(book))

    def test_quiet_sets_are_not_refuted(self):
        for book in ALL_BOOKS:
            for own in rings.quiet_sets(book):
                rest = tuple((group,) for group in books.groups(book) if group not in own)
                self.assertIs(asked.can_be_refuted(book, tuple(sorted((own,) + rest))), False)

    def test_a_run_that_keeps_other_classes(self):
        for book in BOOKS:
            pair = classes.class_ring(book, classes.lone_classes(book))
            if pair is not None:
                run, ring = pair
                self.assertIs(judged.is_ring(run, ring), True)
                self.assertIsNone(runs.weaving(run))
                self.assertIs(some.agree(book, run, books.people(book)), False)
                self.assertNotIn(classes.one_class(book), asked.classes_kept(book, run))


class Runs(unittest.TestCase):
    """(c) to (e): TREES, TERMS and WAITS beside ROUNDS, RUNS and RINGS."""

    def test_rings_of_a_run(self):
        told = {True: 0, False: 0}
        for book, run, tree in itertools.chain(drawn_pairs(388), drawn_pairs(389, GREAT_BOOKS, 24)):
            right = judged.a_ring(run) is not None
            told[right] += 1
            self.assertIs(runs.weaving(run) is None, right)
            self.assertIs(judged.least_people_off(run) != (), right)
            self.assertIs(trees.comes_by(book, tree, run), not right)
            self.assertIs(some.agree(book, run, books.people(book)), not right)
            self.assertIs(some.is_quarrel_run(book, books.people(book), run), right)
            self.assertIs(terms.is_week(as_terms(book), run), True)
            self.assertIs(terms.has_loop(as_terms(book), run), right)
            self.assertIs(classes.keeps_classes(book, classes.one_class(book), run), not right)
            every = waits.all_waits(book)
            if not right:
                # Everybody's row stands in the order of one row of all LETTERS: so all WAITS are kept.
                self.assertIsNotNone(waits.stamps_for(run, every))
            needed = waits.needed_waits(book)
            if right:
                self.assertIsNone(waits.stamps_for(run, needed))
            self.assertEqual(texts.run_in(texts.run_text(run)), run)
        self.assertGreater(min(told.values()), 30)

    def test_people_off_a_run_agree(self):
        for book, run, _ in drawn_pairs(390):
            off = judged.least_people_off(run)
            left = tuple(name for name in books.people(book) if name not in off)
            self.assertIs(some.agree(book, run, left), True)
            ring = judged.a_ring(run)
            if ring is not None:
                groups = judged.least_ring_groups(book, run)
                self.assertEqual(len(groups), len(ring))
                self.assertIs(rings.can_ring_of(book, groups), True)
                sets = asked.classes_kept(book, run)
                self.assertFalse(any(set(groups) <= set(own) for kept in sets for own in kept))

    def test_runs_that_are_made(self):
        for book in ALL_BOOKS:
            for own in rings.tight_sets(book)[:6]:
                run, ring = rings.ring_run(book, own)
                self.assertIs(judged.is_short_ring(judged.cut_run(book, run, own), ring), True)
                self.assertIsNone(trees.belts_for(book, trees.a_best_tree(book), run))
                self.assertIs(terms.has_loop(as_terms(book), run), True)
            triple = waits.ring_in_spite(book, ())
            if triple is not None:
                run, _, ring = triple
                self.assertIs(some.is_quarrel_run(book, books.people(book), run), True)
                self.assertIs(asked.is_refuting_run(book, classes.one_class(book), run), True)
                way = webs.shortest_round(book)
                self.assertGreaterEqual(2 * len(ring), len(way))

    def test_terms_beside_the_web(self):
        for book in ALL_BOOKS:
            own = as_terms(book)
            way, round_way = terms.closed_way(own), webs.shortest_round(book)
            self.assertIs(terms.is_terms(own), True)
            self.assertEqual(way and len(way), round_way and len(round_way))
            if way is not None:
                self.assertIs(webs.is_round(book, webs.round_from(book, way)), True)
                self.assertIs(terms.is_closed_way(own, round_way), True)
                week = terms.looping_week(own)
                self.assertIs(runs.is_run(book, week), True)
                self.assertIsNotNone(judged.a_ring(week))
            for group, person in itertools.product(books.groups(book)[:3], books.people(book)[:3]):
                if (group, person) not in own and (group, person) not in books.memberships(book):
                    calm = not webs.has_round(books.with_member(book, group, person))
                    self.assertEqual(terms.earliest_join(own, group, person), 1 if calm else None)

    def test_memberships_that_end(self):
        for book in ALL_BOOKS:
            left = leaving.kept(book, leaving.least_ends(book))
            self.assertIs(webs.has_round(left), False)
            self.assertEqual(classes.finest_right(left), classes.lone_classes(left))
            self.assertEqual(waits.needed_waits(left), ())
            self.assertEqual(books.people(left), books.people(book))
            self.assertEqual(some.fewest_sets(left), 1)
            board = Board(book)
            for group, person in leaving.least_ends(book)[:60]:
                board.leave(group, person)
            self.assertEqual((board.book(), board.is_calm()), (left, True))

    def test_pairs_of_people_and_of_groups(self):
        for book in ALL_BOOKS:
            crossing = any(some.can_cross(book, one, other) for one, other in itertools.combinations(books.people(book), 2))
            self.assertIs(rings.agree_always(book), not crossing)
            apart = rings.pairs_apart(book)
            pairs = itertools.combinations(books.people(book), 2)
            together = set(
                pair for one, other in pairs
                for pair in itertools.combinations(trees.groups_with(book, one, other), 2)
            )
            self.assertEqual(apart, tuple(sorted(together)))
            for one, other in apart:
                self.assertIs((one, other) in classes.must_join(book), True)


if __name__ == "__main__":
    unittest.main()
