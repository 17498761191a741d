"""Calls of each function of the package, drawn from fixed seeds: those that return and those that raise."""

import random

import reading
from drawing import NAMES, THINGS, all_letters, circle_books, drawn_book, drawn_books, drawn_came, drawn_numbers, drawn_row
from drawing import drawn_run, drawn_terms, drawn_tree, some_names, thick_books, wild_run
from orderrings import asked, books, classes, desk, judged, leaving, rings, runs, some, terms, texts, trees, waits, webs

BOOKS = drawn_books(51, 20) + thick_books(52, 12) + circle_books(54, 6)


def book_calls(draw, book):
    groups = [group for group, _ in book]
    crowd = sorted({person for _, members in book for person in members})
    group = draw.choice(groups * 4 + ["x", "p"])
    other = draw.choice(groups * 4 + ["y", "p"])
    person = draw.choice(crowd * 4 + ["x", "a"])
    pairs = tuple(zip(some_names(draw, 0, 4, groups + crowd), draw.sample(NAMES, 8)))
    yield from ((call, {"book": book}) for call in (
        books.groups, books.people, books.memberships, books.parts, books.turned, webs.has_round, webs.rounds,
        webs.shortest_round, webs.bridges, webs.blocks, webs.cut_people, webs.cut_groups,
    ))
    yield books.members_of, {"book": book, "group": group}
    yield books.groups_of, {"book": book, "person": person}
    yield books.in_both, {"book": book, "one": group, "other": other}
    yield books.with_group, {"book": book, "group": draw.choice(NAMES), "members": some_names(draw, 1, 3)}
    if len(book) > 1:
        yield books.without_group, {"book": book, "group": group}
    yield books.cut_to, {"book": book, "some": tuple(sorted({group, other}))}
    yield books.with_member, {"book": book, "group": group, "person": draw.choice(NAMES)}
    yield books.without_member, {"book": book, "group": group, "person": person}
    yield books.groups_renamed, {"book": book, "pairs": pairs}
    yield books.people_renamed, {"book": book, "pairs": pairs}
    yield webs.way_between, {"book": book, "one": group, "other": other}
    for call in (webs.is_on_round, webs.block_of):
        yield call, {"book": book, "group": group, "person": person}


def round_calls(draw, book):
    way = draw.choice(webs.rounds(book) + [("a", "p", "b", "q")])
    at = 2 * draw.randrange(len(way) // 2)
    yield webs.round_from, {"book": book, "way": way[at:] + way[:at]}
    yield webs.round_from, {"book": book, "way": way[:-1]}
    for thing in (way, list(way), draw.choice(THINGS)):
        yield webs.is_round, {"book": book, "thing": thing}
        yield books.is_book, {"thing": draw.choice((book, list(book), thing))}


def run_calls(draw, book):
    numbers = drawn_numbers(draw, book, 7)
    first, second = drawn_run(draw, book, numbers), drawn_run(draw, book, drawn_numbers(draw, book, 6))
    letters = drawn_row(draw, all_letters(book, numbers))
    for thing in (first, list(first), tuple(list(pair) for pair in first), draw.choice(THINGS)):
        yield runs.is_run, {"book": book, "thing": thing}
    for call in (runs.counts_in, runs.number_of_run):
        yield call, {"book": book, "run": first}
    for call in (runs.how_many_runs, runs.how_many_woven):
        yield call, {"book": book, "numbers": numbers}
    for number in (0, 1, -1, draw.randrange(runs.how_many_runs(book, numbers))):
        yield runs.nth_run, {"book": book, "numbers": numbers, "number": number}
    for call in (runs.seen_pairs, runs.turned_run):
        yield call, {"run": first}
    if letters:
        yield runs.is_seen_ahead, {"run": first, "one": letters[0], "other": letters[-1]}
    yield runs.run_from, {"book": book, "letters": letters}
    yield runs.run_from, {"book": book, "letters": letters[1:]}
    yield runs.run_behind, {"first": first, "second": second}
    yield runs.first_letters, {"book": book, "run": first, "numbers": drawn_numbers(draw, book, 5)}


def weaving_calls(draw, book):
    letters = drawn_row(draw, all_letters(book, drawn_numbers(draw, book, 7)))
    woven = runs.run_from(book, letters)
    for run in (woven, drawn_run(draw, book, drawn_numbers(draw, book, 6))):
        for call in (runs.weaving, runs.how_many_weavings):
            yield call, {"run": run}
        for number in (0, 1, 3):
            yield runs.nth_weaving, {"run": run, "number": number}
        for thing in (letters, list(letters), draw.choice(THINGS)):
            yield runs.is_weaving, {"run": run, "thing": thing}
    yield runs.number_of_weaving, {"run": woven, "letters": letters}


def ring_calls(draw, book):
    names = [group for group, _ in book]
    yield from ((call, {"book": book}) for call in (
        rings.can_ring, rings.ring_groups, rings.tight_sets, rings.tight_groups, rings.fewest_letters, rings.ring_sizes,
        rings.quiet_sets, rings.most_quiet, rings.pairs_apart, rings.agree_always,
    ))
    tight = draw.choice(rings.tight_sets(book) + (tuple(names),))
    for some in (tight, some_names(draw, 0, len(names), names), tuple(sorted(tight + ("x",))), ()):
        for call in (rings.can_ring_of, rings.ring_run):
            yield call, {"book": book, "some": some}
        right = rings.ring_run(book, tight)
        for thing in (right, [right], ((("p", ()),), ()), draw.choice(THINGS)):
            yield rings.is_ring_run, {"book": book, "some": some, "thing": thing}
    letters = [(group, number) for group in names for number in (1, 2, 7)]
    for _ in range(3):
        yield rings.can_be_ring, {"book": book, "row": tuple(draw.sample(letters, draw.randint(2, min(5, len(letters)))))}


def class_calls(draw, book):
    every = reading.partings([group for group, _ in book])
    one, other = draw.choice(every), draw.choice(every + [every[0]])
    run = wild_run(draw, book, drawn_numbers(draw, book, 6))
    yield from ((call, {"book": book}) for call in (
        classes.lone_classes, classes.one_class, classes.finest_right, classes.must_join, classes.how_many_right,
    ))
    for sets in (one, other, every[0]):
        yield classes.keeps_classes, {"book": book, "classes": sets, "run": run}
        yield from ((call, {"book": book, "classes": sets}) for call in (
            classes.are_right, classes.split_round, classes.class_ring, classes.mended, classes.fewest_joins,
            classes.least_joins, classes.number_of_right, classes.pairs_agree,
        ))
        for thing in (sets, list(sets), classes.split_round(book, sets), draw.choice(THINGS)):
            yield classes.is_classes, {"book": book, "thing": thing}
            yield classes.is_split_round, {"book": book, "classes": one, "thing": thing}
        for thing in (classes.class_ring(book, sets), [run, ()], (run, ()), draw.choice(THINGS)):
            yield classes.is_class_ring, {"book": book, "classes": other, "thing": thing}
    for call in (classes.is_coarser, classes.joined_classes, classes.common_classes):
        yield call, {"one": one, "other": other}
    for number in (0, 1, 4, -1):
        yield classes.nth_right, {"book": book, "number": number}


def judged_calls(draw, book):
    names = [group for group, _ in book]
    for run in (drawn_run(draw, book, drawn_numbers(draw, book, 6)), wild_run(draw, book, drawn_numbers(draw, book, 9))):
        letters = reading.letters_in(run)
        yield from ((call, {"run": run}) for call in (
            judged.short_ring, judged.a_ring, judged.short_rings, judged.clashes, judged.ring_letters, judged.mixed_up,
            judged.settled_letters, judged.least_people_off, judged.mending_swaps, judged.least_letters_off,
        ))
        if letters:
            yield judged.seen_by, {"run": run, "one": letters[0], "other": draw.choice(letters)}
        ring = judged.a_ring(run)
        if ring is not None:
            yield judged.seers_of, {"run": run, "ring": ring}
        for thing in (ring, ring and list(ring), tuple(letters), draw.choice(THINGS)):
            for call in (judged.is_ring, judged.is_short_ring):
                yield call, {"run": run, "thing": thing}
        for some in (some_names(draw, 1, len(names), names), some_names(draw, 1, 3)):
            yield judged.cut_run, {"book": book, "run": run, "some": some}
        yield judged.least_ring_groups, {"book": book, "run": run}
        yield judged.against_row, {"run": run, "row": drawn_row(draw, tuple(letters))}


def leaving_calls(draw, book):
    ties = reading.ties(book)
    yield from ((call, {"book": book}) for call in (
        leaving.fewest_ends, leaving.least_ends, leaving.ways_to_end, leaving.calm_joins, leaving.least_closed,
        leaving.least_gone,
    ))
    for many in (0, 1, 2, 3):
        ends = tuple(sorted(draw.sample(ties, min(many, len(ties)))))
        for call in (leaving.kept, leaving.is_mended, leaving.more_ends, leaving.spare_ends):
            yield call, {"book": book, "ends": ends}
            yield call, {"book": book, "ends": ends + (("zz", "zz"),)}
    for pool in ((0, 1, 2), (0,), (1, 10 ** 30)):
        yield leaving.cheapest_ends, {"book": book, "prices": tuple(draw.choice(pool) for _ in ties)}
    for _ in range(3):
        group, person = draw.choice([group for group, _ in book] + ["x"]), draw.choice(reading.crowd(book) + ["y"])
        yield leaving.can_join, {"book": book, "group": group, "person": person}
    if len(ties) < 13:
        yield leaving.least_pair_ends, {"book": book}
        sets = draw.choice(reading.partings([group for group, _ in book]))
        yield leaving.least_ends_beside, {"book": book, "classes": sets}


def tree_calls(draw, book):
    crowd = reading.crowd(book)
    tree = drawn_tree(draw, book)
    yield from ((call, {"book": book}) for call in (
        trees.fewest_pieces, trees.a_best_tree, trees.surely_tied, trees.maybe_tied, trees.plain_tree,
    ))
    if len(crowd) < 5:
        yield from ((call, {"book": book}) for call in (trees.best_trees, trees.fewest_strangers, trees.quiet_tree))
    for call in (trees.passers, trees.strangers, trees.pieces):
        yield call, {"book": book, "tree": tree, "group": draw.choice([group for group, _ in book] * 3 + ["x"])}
    for call in (trees.all_strangers, trees.all_pieces):
        yield call, {"book": book, "tree": tree}
    yield trees.groups_with, {"book": book, "one": draw.choice(crowd + ["x"]), "other": draw.choice(crowd + ["y"])}
    for thing in (tree, list(tree), tree[1:], draw.choice(THINGS)):
        for call in (trees.is_tree, trees.is_best_tree, trees.is_plain_tree):
            yield call, {"book": book, "thing": thing}
        if len(crowd) < 5:
            yield trees.is_quiet_tree, {"book": book, "thing": thing}
    for run in (drawn_run(draw, book, drawn_numbers(draw, book, 5)), wild_run(draw, book, drawn_numbers(draw, book, 6))):
        for call in (trees.comes_by, trees.belts_for):
            yield call, {"book": book, "tree": tree, "run": run}
        for thing in (trees.belts_for(book, tree, run), run, list(run), draw.choice(THINGS)):
            yield trees.are_belts, {"book": book, "tree": tree, "run": run, "thing": thing}


def term_calls(draw):
    own = drawn_terms(draw, "ghk", "abc", 4, 8)
    group, person = draw.choice("ghkx"), draw.choice("abcy")
    yield from ((call, {"terms": own}) for call in (terms.can_loop, terms.closed_way, terms.looping_week))
    for thing in (own, list(own), own[::-1], draw.choice(THINGS)):
        yield terms.is_terms, {"thing": thing}
    yield terms.getters, {"terms": own, "group": group, "number": draw.choice((-1, 0, 1, 2, 3, 4, 10 ** 30))}
    yield terms.terms_of, {"terms": own, "person": person}
    for thing in (terms.closed_way(own), ("g", "a", "h", "b"), ["g", "a", "h", "b"], draw.choice(THINGS)):
        yield terms.is_closed_way, {"terms": own, "thing": thing}
    nothing = tuple((name, ()) for name in sorted(set(term[1] for term in own)))
    for week in (terms.looping_week(own) or nothing, nothing):
        yield terms.has_loop, {"terms": own, "week": week}
        for thing in (week, list(week), draw.choice(THINGS)):
            yield terms.is_week, {"terms": own, "thing": thing}
    for place in (0, 1, -1, 7, len(own)):
        for call in (terms.latest_last, terms.earliest_first):
            yield call, {"terms": own, "place": place}
    yield terms.earliest_join, {"terms": own, "group": group, "person": person}
    for number in (1, 3, 10 ** 30):
        one, other = draw.sample("abcy", 2)
        yield terms.may_swap, {"terms": own, "group": group, "one": one, "other": other, "number": number}


def some_calls(draw, book):
    crowd = reading.crowd(book)
    yield from ((call, {"book": book}) for call in (
        some.quarrels, some.greatest_agreeing, some.sure_friends, some.fewest_sets, some.a_parting,
    ))
    run = wild_run(draw, book, drawn_numbers(draw, book, 8))
    for names in (tuple(crowd), some_names(draw, 0, len(crowd), crowd), some_names(draw, 1, 2)):
        yield some.agree, {"book": book, "run": run, "some": names}
        for call in (some.surely_agree, some.round_among, some.quarrel_run):
            yield call, {"book": book, "some": names}
        way = some.round_among(book, tuple(crowd))
        for thing in (way, way and list(way), draw.choice(THINGS)):
            yield some.is_round_among, {"book": book, "some": names, "thing": thing}
        for thing in (run, list(run), some.quarrel_run(book, tuple(crowd)), draw.choice(THINGS)):
            yield some.is_quarrel_run, {"book": book, "some": names, "thing": thing}
    for thing in (some.a_parting(book), list(some.a_parting(book)), (tuple(crowd),), draw.choice(THINGS)):
        yield some.is_parting, {"book": book, "thing": thing}
    one, other = draw.choice(crowd + ["x"]), draw.choice(crowd + ["y"])
    for call in (some.can_cross, some.crossing_run):
        yield call, {"book": book, "one": one, "other": other}


def wait_calls(draw, book):
    every = waits.all_waits(book)
    person = draw.choice(reading.crowd(book))
    yield waits.needed_waits, {"book": book}
    yield waits.waits_of, {"book": book, "person": draw.choice((person, person, "x"))}
    for own in (waits.needed_waits(book), every, tuple(wait for wait in every if draw.random() < 0.5)):
        for thing in (own, list(own), own[::-1], draw.choice(THINGS)):
            yield waits.is_waits, {"book": book, "thing": thing}
        for call in (waits.are_enough_waits, waits.missing_waits, waits.spare_waits, waits.ring_in_spite):
            yield call, {"book": book, "waits": own}
        triple = waits.ring_in_spite(book, own)
        for thing in (triple, triple and list(triple), (1, 2, 3), draw.choice(THINGS)):
            yield waits.is_ring_in_spite, {"book": book, "waits": own, "thing": thing}
        run = draw.choice((drawn_run, wild_run))(draw, book, drawn_numbers(draw, book, 6))
        letters = drawn_row(draw, tuple(reading.letters_in(run)))
        stamps = tuple(sorted(zip(letters, range(1, len(letters) + 1))))
        for call in (waits.keeps_waits, waits.broken_waits):
            yield call, {"run": run, "stamps": stamps, "waits": own}
        yield waits.stamps_for, {"run": run, "waits": own}
        for thing in (stamps, list(stamps), waits.stamps_for(run, own), draw.choice(THINGS)):
            yield waits.is_stamps, {"run": run, "thing": thing}
            yield waits.is_stamps_for, {"run": run, "waits": own, "thing": thing}
        came = drawn_came(draw, [group for group, members in book if person in members], 6)
        for call in (waits.shown_row, waits.held_back):
            yield call, {"book": book, "waits": own, "person": draw.choice((person, person, person, "x")), "came": came}


def asker_of(sets):
    return lambda one, other: any(one in own and other in own for own in sets)


def asked_calls(draw, book):
    names = [group for group, _ in book]
    pairs = [(one, other) for one in names for other in names if one < other]
    every = reading.partings(names)
    right = classes.nth_right(book, draw.randrange(classes.how_many_right(book)))
    asker = asker_of(right)
    for sets in (right, draw.choice(every)):
        ask = asker_of(sets)
        answers = tuple(pair + (ask(*pair),) for pair in pairs if draw.random() < 0.4)
        for thing in (answers, list(answers), answers[::-1], draw.choice(THINGS)):
            yield asked.is_answers, {"book": book, "thing": thing}
        for call in (asked.can_answer, asked.how_many_answer, asked.surely_one, asked.surely_two, asked.still_hidden,
                     asked.asks_left):
            yield call, {"book": book, "answers": answers}
        for call in (asked.asks_to_show, asked.showing_answers, asked.can_be_refuted, asked.refuting_run):
            yield call, {"book": book, "classes": sets}
        for thing in (asked.showing_answers(book, right), answers, list(answers), draw.choice(THINGS)):
            yield asked.is_showing_answers, {"book": book, "classes": sets, "thing": thing}
        for thing in (asked.refuting_run(book, (tuple(names),)), asked.refuting_run(book, sets), draw.choice(THINGS)):
            yield asked.is_refuting_run, {"book": book, "classes": sets, "thing": thing}
    yield asked.told_classes, {"book": book, "asker": asker}
    run = wild_run(draw, book, drawn_numbers(draw, book, 6))
    for call in (asked.barred_pairs, asked.classes_kept, asked.fewest_orderers):
        yield call, {"book": book, "run": run}
    yield asked.can_share, {"book": book, "run": run, "one": draw.choice(names + ["x"]), "other": draw.choice(names + ["y"])}


def text_calls(draw, book):
    run = drawn_run(draw, book, drawn_numbers(draw, book, 6))
    row = draw.choice(run)[1]
    sets = draw.choice(reading.partings([group for group, _ in book]))
    for write, read, name, value in ((texts.book_text, texts.book_in, "book", book), (texts.row_text, texts.row_in, "row", row),
                                     (texts.run_text, texts.run_in, "rows", run),
                                     (texts.classes_text, texts.classes_in, "classes", sets)):
        yield write, {name: value}
        text = write(value)
        for own in (text, text + " ", text[1:], text[::-1]):
            yield read, {"text": own}
    lines = ["send " + book[0][0], "get " + book[0][1][0] + " " + book[0][0], "rows", "calm", "undo", "classes", "can p", "look"]
    for thing in lines + [lines, tuple(lines), draw.choice(THINGS)]:
        yield desk.is_request, {"thing": thing}
    for many in (0, 4, 7, 8):
        yield desk.replies, {"book": book, "text": "\n".join(lines[:many])}


def drawn_calls():
    """Pairs (function, arguments by their names, in their order)."""
    draw = random.Random(53)
    great = tuple(drawn_book(draw, 4, 5) for _ in range(8))
    for book in BOOKS + great:
        yield from book_calls(draw, book)
        yield from round_calls(draw, book)
        yield from run_calls(draw, book)
        yield from weaving_calls(draw, book)
        yield from ring_calls(draw, book)
        yield from class_calls(draw, book)
        yield from judged_calls(draw, book)
        yield from leaving_calls(draw, book)
        yield from tree_calls(draw, book)
        yield from term_calls(draw)
        yield from some_calls(draw, book)
        yield from wait_calls(draw, book)
        yield from asked_calls(draw, book)
        yield from text_calls(draw, book)
