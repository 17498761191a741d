"""Calls of each function of the package, drawn from fixed seeds: those that return and those that raise."""

import random

from drawing import NAMES, THINGS, all_letters, drawn_book, drawn_books, drawn_numbers, drawn_row, drawn_run, some_names
from drawing import thick_books
from orderrings import books, runs, webs

BOOKS = drawn_books(51, 20) + thick_books(52, 12)


def book_calls(draw, book):
    groups = [group for group, _ in book]
    crowd = sorted({person for _, members in book for person in members})
    group = draw.choice(groups * 4 + ["x", "p"])
    other = draw.choice(groups * 4 + ["y", "p"])
    person = draw.choice(crowd * 4 + ["x", "a"])
    pairs = tuple(zip(some_names(draw, 0, 4, groups + crowd), draw.sample(NAMES, 8)))
    yield from ((call, {"book": book}) for call in (
        books.groups, books.people, books.memberships, books.parts, books.turned, webs.has_round, webs.rounds,
        webs.shortest_round, webs.bridges, webs.blocks, webs.cut_people, webs.cut_groups,
    ))
    yield books.members_of, {"book": book, "group": group}
    yield books.groups_of, {"book": book, "person": person}
    yield books.in_both, {"book": book, "one": group, "other": other}
    yield books.with_group, {"book": book, "group": draw.choice(NAMES), "members": some_names(draw, 1, 3)}
    if len(book) > 1:
        yield books.without_group, {"book": book, "group": group}
    yield books.cut_to, {"book": book, "some": tuple(sorted({group, other}))}
    yield books.with_member, {"book": book, "group": group, "person": draw.choice(NAMES)}
    yield books.without_member, {"book": book, "group": group, "person": person}
    yield books.groups_renamed, {"book": book, "pairs": pairs}
    yield books.people_renamed, {"book": book, "pairs": pairs}
    yield webs.way_between, {"book": book, "one": group, "other": other}
    for call in (webs.is_on_round, webs.block_of):
        yield call, {"book": book, "group": group, "person": person}


def round_calls(draw, book):
    way = draw.choice(webs.rounds(book) + [("a", "p", "b", "q")])
    at = 2 * draw.randrange(len(way) // 2)
    yield webs.round_from, {"book": book, "way": way[at:] + way[:at]}
    yield webs.round_from, {"book": book, "way": way[:-1]}
    for thing in (way, list(way), draw.choice(THINGS)):
        yield webs.is_round, {"book": book, "thing": thing}
        yield books.is_book, {"thing": draw.choice((book, list(book), thing))}


def run_calls(draw, book):
    numbers = drawn_numbers(draw, book, 7)
    first, second = drawn_run(draw, book, numbers), drawn_run(draw, book, drawn_numbers(draw, book, 6))
    letters = drawn_row(draw, all_letters(book, numbers))
    for thing in (first, list(first), tuple(list(pair) for pair in first), draw.choice(THINGS)):
        yield runs.is_run, {"book": book, "thing": thing}
    for call in (runs.counts_in, runs.number_of_run):
        yield call, {"book": book, "run": first}
    for call in (runs.how_many_runs, runs.how_many_woven):
        yield call, {"book": book, "numbers": numbers}
    for number in (0, 1, -1, draw.randrange(runs.how_many_runs(book, numbers))):
        yield runs.nth_run, {"book": book, "numbers": numbers, "number": number}
    for call in (runs.seen_pairs, runs.turned_run):
        yield call, {"run": first}
    if letters:
        yield runs.is_seen_ahead, {"run": first, "one": letters[0], "other": letters[-1]}
    yield runs.run_from, {"book": book, "letters": letters}
    yield runs.run_from, {"book": book, "letters": letters[1:]}
    yield runs.run_behind, {"first": first, "second": second}
    yield runs.first_letters, {"book": book, "run": first, "numbers": drawn_numbers(draw, book, 5)}


def weaving_calls(draw, book):
    letters = drawn_row(draw, all_letters(book, drawn_numbers(draw, book, 7)))
    woven = runs.run_from(book, letters)
    for run in (woven, drawn_run(draw, book, drawn_numbers(draw, book, 6))):
        for call in (runs.weaving, runs.how_many_weavings):
            yield call, {"run": run}
        for number in (0, 1, 3):
            yield runs.nth_weaving, {"run": run, "number": number}
        for thing in (letters, list(letters), draw.choice(THINGS)):
            yield runs.is_weaving, {"run": run, "thing": thing}
    yield runs.number_of_weaving, {"run": woven, "letters": letters}


def drawn_calls():
    """Pairs (function, arguments by their names, in their order)."""
    draw = random.Random(53)
    great = tuple(drawn_book(draw, 4, 5) for _ in range(8))
    for book in BOOKS + great:
        yield from book_calls(draw, book)
        yield from round_calls(draw, book)
        yield from run_calls(draw, book)
        yield from weaving_calls(draw, book)
