"""Plain readings of the document, slow and by its words, to compare the package with."""

import itertools
import math

SIGNS = "abcdefghijklmnopqrstuvwxyz"


def outcome(call, *args, **names):
    """What a call returns or raises, as a text and its values: lists and tuples, 1 and True are unlike."""
    try:
        return "returns " + repr(call(*args, **names))
    except Exception as error:
        return f"raises {type(error).__module__}.{type(error).__name__} {vars(error)!r}"


def unordered(book):
    return {group: set(members) for group, members in book}


def as_book(groups):
    return tuple(sorted((group, tuple(sorted(members))) for group, members in groups.items()))


def crowd(book):
    return sorted(set(person for _, members in book for person in members))


def ties(book):
    return [(group, person) for group, members in book for person in members]


def is_name(thing):
    return type(thing) is str and 0 < len(thing) < 9 and all(sign in SIGNS for sign in thing)


def is_book(thing):
    if type(thing) is not tuple or not thing:
        return False
    for pair in thing:
        if type(pair) is not tuple or len(pair) != 2 or not is_name(pair[0]):
            return False
        if type(pair[1]) is not tuple or not pair[1] or not all(is_name(name) for name in pair[1]):
            return False
        if list(pair[1]) != sorted(set(pair[1])):
            return False
    names = [pair[0] for pair in thing]
    return names == sorted(set(names))


def parts(book):
    groups = unordered(book)
    sets = [{group} for group in groups]
    for one, other in itertools.combinations(groups, 2):
        if groups[one] & groups[other]:
            low = next(part for part in sets if one in part)
            high = next(part for part in sets if other in part)
            if low is not high:
                sets = [part for part in sets if part is not low and part is not high] + [low | high]
    return tuple(sorted(tuple(sorted(part)) for part in sets))


def is_plain_round(book, way):
    """Whether these strings are a ROUND, told as the document says."""
    groups, links = way[0::2], way[1::2]
    if len(groups) != len(links) or len(groups) < 2:
        return False
    if len(set(groups)) < len(groups) or len(set(links)) < len(links):
        return False
    table = unordered(book)
    for at, link in enumerate(links):
        for group in (groups[at], groups[(at + 1) % len(groups)]):
            if group not in table or link not in table[group]:
                return False
    return groups[0] == min(groups) and links[0] < links[-1]


def rounds(book):
    found = []
    names = [group for group, _ in book]
    for many in range(2, min(len(names), len(crowd(book))) + 1):
        for groups in itertools.permutations(names, many):
            if groups[0] != min(groups):
                continue
            for links in itertools.permutations(crowd(book), many):
                way = tuple(name for pair in zip(groups, links) for name in pair)
                if is_plain_round(book, way):
                    found.append(way)
    return sorted(found)


def grown_rounds(book):
    """ALL ROUNDS of BOOKS in which there are not many."""
    table = unordered(book)
    found, ways = [], [(group,) for group in sorted(table)]
    while ways:
        ways = [way + (name,) for way in ways for name in table[way[-1]] if name not in way[1::2]]
        found.extend(way for way in ways if is_plain_round(book, way))
        ways = [way + (group,) for way in ways for group in sorted(table) if way[-1] in table[group] and group not in way[0::2]]
        ways = [way for way in ways if way[-1] > way[0]]
    return sorted(found)


def on_round(way):
    """The MEMBERSHIPS on this ROUND."""
    found = set()
    for at in range(0, len(way), 2):
        found.add((way[at], way[at + 1]))
        found.add((way[(at + 2) % len(way)], way[at + 1]))
    return found


def blocks(book):
    sets = [on_round(way) for way in rounds(book)]
    found = set()
    for tie in ties(book):
        block = {tie}.union(*[ties_on for ties_on in sets if tie in ties_on])
        found.add(tuple(sorted(block)))
    return tuple(sorted(found))


def linked(book, one, other):
    """Whether a way leads from the one group to the other one."""
    reached = {one}
    for _ in book:
        people = set(person for group, members in book if group in reached for person in members)
        reached |= set(group for group, members in book if people & set(members))
    return other in reached


def without_person(book, person):
    return tuple((group, tuple(name for name in members if name != person)) for group, members in book)


def cut_people(book):
    found = []
    for person in crowd(book):
        less = without_person(book, person)
        for one, other in itertools.combinations([group for group, _ in book], 2):
            if linked(book, one, other) and not linked(less, one, other):
                found.append(person)
                break
    return tuple(found)


def way_between(book, one, other):
    ways = [(one,)]
    for _ in book:
        there = [way for way in ways if way[-1] == other]
        if there:
            return min(there)
        ways = [
            way + (person, group)
            for way in ways
            for person in unordered(book)[way[-1]]
            for group, members in book
            if person in members
        ]
    return None


def in_order(row):
    """Whether the LETTERS of each group stand in their numbers' order."""
    return all(one[1] < other[1] for one, other in itertools.combinations(row, 2) if one[0] == other[0])


def rows_of(letters):
    """All rows of these LETTERS, ascending."""
    return sorted(row for row in itertools.permutations(letters) if in_order(row))


def runs(book, numbers):
    """All RUNS with so many LETTERS, ascending."""
    letters = [(entry[0], number) for entry, many in zip(book, numbers) for number in range(1, many + 1)]
    choices = []
    for person in crowd(book):
        mine = [letter for letter in letters if person in unordered(book)[letter[0]]]
        choices.append([(person, row) for row in rows_of(mine)])
    return [tuple(run) for run in itertools.product(*choices)]


def many_runs(book, numbers):
    """How many RUNS there are with so many LETTERS."""
    many = 1
    for person in crowd(book):
        mine = [number for entry, number in zip(book, numbers) if person in entry[1]]
        many *= math.factorial(sum(mine))
        for number in mine:
            many //= math.factorial(number)
    return many


def is_run(book, thing):
    if type(thing) is not tuple or any(type(pair) is not tuple or len(pair) != 2 for pair in thing):
        return False
    if [pair[0] for pair in thing] != crowd(book):
        return False
    many = {}
    for person, row in thing:
        if type(row) is not tuple:
            return False
        for letter in row:
            if type(letter) is not tuple or len(letter) != 2 or type(letter[1]) is not int:
                return False
        for group, members in book:
            numbers = [letter[1] for letter in row if letter[0] == group]
            if person in members:
                if numbers != list(range(1, len(numbers) + 1)) or many.setdefault(group, len(numbers)) != len(numbers):
                    return False
            elif numbers:
                return False
        if any(type(letter[0]) is not str or letter[0] not in unordered(book) for letter in row):
            return False
    return True


def letters_in(run):
    return sorted(set(letter for _, row in run for letter in row))


def seen_pairs(run):
    return sorted(set(pair for _, row in run for pair in itertools.combinations(row, 2)))


def is_weaving(run, thing):
    if type(thing) is not tuple:
        return False
    for letter in thing:
        if type(letter) is not tuple or len(letter) != 2 or type(letter[0]) is not str or type(letter[1]) is not int:
            return False
    if sorted(thing) != letters_in(run):
        return False
    return all([letter for letter in thing if letter in row] == list(row) for _, row in run)


def weavings(run):
    """All WEAVINGS, ascending."""
    return [row for row in itertools.permutations(letters_in(run)) if is_weaving(run, row)]


def has_weaving(run):
    """Whether LETTERS can be taken away, one by one, ahead of which nothing is seen any more."""
    left = [list(row) for _, row in run if row]
    while left:
        heads = [row[0] for row in left]
        free = [head for head in heads if all(head not in row[1:] for row in left)]
        if not free:
            return False
        left = [row[1:] if row[0] == free[0] else row for row in left]
        left = [row for row in left if row]
    return True


def has_ring(run):
    """Whether some tuple of unlike LETTERS goes round, each seen ahead of the next one."""
    after = {letter: set() for letter in letters_in(run)}
    for one, other in seen_pairs(run):
        after[one].add(other)
    for _ in after:
        for letter in after:
            after[letter] = after[letter].union(*[after[other] for other in after[letter]])
    return any(letter in after[letter] for letter in after)


def many_weavings(run):
    """How many WEAVINGS there are, counted by the sets of LETTERS that came already."""
    letters = letters_in(run)
    place = {letter: at for at, letter in enumerate(letters)}
    ahead = [0] * len(letters)
    for one, other in seen_pairs(run):
        ahead[place[other]] |= 1 << place[one]
    level = {0: 1}
    for _ in letters:
        following = {}
        for came, ways in level.items():
            for at, need in enumerate(ahead):
                if not came >> at & 1 and need & came == need:
                    key = came | 1 << at
                    following[key] = following.get(key, 0) + ways
        level = following
    return sum(level.values())


def subsets(values):
    """All subsets, those with fewer values first, of those with as many the lesser ones first."""
    values = sorted(values)
    return [some for many in range(len(values) + 1) for some in itertools.combinations(values, many)]


def is_letter(thing):
    return type(thing) is tuple and len(thing) == 2 and is_name(thing[0]) and type(thing[1]) is int and thing[1] > 0


def is_ring(run, thing):
    if type(thing) is not tuple or len(thing) < 2 or not all(is_letter(letter) for letter in thing):
        return False
    if len(set(thing)) < len(thing):
        return False
    seen = set(seen_pairs(run))
    return all((thing[at - 1], thing[at]) in seen for at in range(len(thing)))


def rings(run):
    """All RINGS, ascending, each told once, from its least LETTER on."""
    letters, seen = letters_in(run), set(seen_pairs(run))
    after = {one: [other for other in letters if (one, other) in seen] for one in letters}
    found = []
    rows = [(letter,) for letter in letters]
    while rows:
        found.extend(row for row in rows if row[0] in after[row[-1]])
        rows = [row + (letter,) for row in rows for letter in after[row[-1]] if letter > row[0] and letter not in row]
    return sorted(found)


def turns(ring):
    """The same RING begun at each of its LETTERS."""
    return [ring[at:] + ring[:at] for at in range(len(ring))]


def is_tight(every, ring):
    """Whether none of all RINGS of a RUN has fewer LETTERS, all of them of this one."""
    return not any(len(other) < len(ring) and set(other) <= set(ring) for other in every)


def disagree(run, one, other):
    """Whether two people got these two LETTERS in both orders."""
    seen = seen_pairs(run)
    return (one, other) in seen and (other, one) in seen


def partings(values):
    """All sets of sets in which each of these values is in just one set."""
    if not values:
        return [()]
    found = []
    for rest in partings(values[1:]):
        found.append(rest + ((values[0],),))
        for at, some in enumerate(rest):
            found.append(rest[:at] + (some + (values[0],),) + rest[at + 1:])
    return sorted(tuple(sorted(tuple(sorted(some)) for some in sets)) for sets in found)


def cut_rows(run, fits):
    """The RUN with those LETTERS alone that fit."""
    return tuple((person, tuple(letter for letter in row if fits(letter))) for person, row in run)
