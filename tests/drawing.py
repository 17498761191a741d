"""BOOKS, RUNS and things for the tests, drawn from fixed seeds."""

import random

from reading import many_runs

NAMES = ("a", "b", "c", "d", "p", "q", "ab", "z", "zz", "abcdefgh")

RING = (("a", ("p", "r")), ("b", ("p", "q")), ("c", ("q", "r")))
ROW = (("a", ("p",)), ("b", ("p", "q")), ("c", ("q", "r", "s")))
LONE = (("a", ("a",)),)
# Groups and people of the same NAMES.
SAME = (("a", ("a", "b")), ("b", ("a", "b", "c")), ("c", ("c",)))
# A round of four groups, and one that hangs on it.
SQUARE = (("a", ("s", "t")), ("b", ("t", "u")), ("c", ("u", "v")), ("d", ("s", "v", "w")), ("e", ("w",)))
# Two blocks that meet in one person, and two that meet in one group.
BOW = (("a", ("p", "q")), ("b", ("p", "q")), ("c", ("q", "r")), ("d", ("q", "r")))
KNOT = (("a", ("p", "q")), ("b", ("p", "q", "r", "s")), ("c", ("r", "s")))
FULL = tuple((group, tuple("pqrstuvw")) for group in "abcdefgh")
APART = tuple((group, (person,)) for group, person in zip("abcdefgh", "pqrstuvw"))
CIRCLE = tuple((group, tuple(sorted((one, other)))) for group, one, other in zip("abcdefgh", "pqrstuvw", "qrstuvwp"))
CHAIN = tuple((group, (one, other)) for group, one, other in zip("abcdefg", "pqrstuv", "qrstuvw"))
TOLD_BOOKS = (RING, ROW, LONE, SAME, SQUARE, BOW, KNOT)
GREAT_BOOKS = (FULL, APART, CIRCLE, CHAIN)


def some_names(draw, least, most, pool=NAMES):
    return tuple(sorted(draw.sample(pool, draw.randint(least, min(most, len(pool))))))


def drawn_book(draw, most_groups=4, most_people=4):
    crowd = some_names(draw, 1, most_people)
    share = draw.choice((1, 2, len(crowd)))
    return tuple((group, some_names(draw, 1, share, crowd)) for group in some_names(draw, 1, most_groups))


def drawn_books(seed, many, most_groups=4, most_people=4):
    draw = random.Random(seed)
    return TOLD_BOOKS + tuple(drawn_book(draw, most_groups, most_people) for _ in range(many))


def thick_books(seed, many):
    """BOOKS of three or four groups with two people or more in each."""
    draw = random.Random(seed)
    crowds = [some_names(draw, 3, 4) for _ in range(many)]
    return tuple(tuple((group, some_names(draw, 2, 4, crowd)) for group in some_names(draw, 3, 4)) for crowd in crowds)


def thin_books(seed, many):
    """BOOKS of many groups with one or two people in each."""
    draw = random.Random(seed)
    crowds = [some_names(draw, 3, 6) for _ in range(many)]
    return tuple(tuple((group, some_names(draw, 1, 2, crowd)) for group in some_names(draw, 3, 6)) for crowd in crowds)


def circle_books(seed, many, most_groups=5):
    """BOOKS of a circle of three groups or more, with some MEMBERSHIPS more, and maybe a group more."""
    draw = random.Random(seed)
    found = []
    for _ in range(many):
        size = draw.randint(3, most_groups)
        names, crowd = draw.sample("abcdefg", size), draw.sample("pqrstuvab", size)
        table = {name: {crowd[at - 1], crowd[at]} for at, name in enumerate(names)}
        if draw.random() < 0.3:
            table["x"] = {draw.choice(crowd), draw.choice(crowd + ["z"])}
        for _ in range(draw.choice((0, 0, 1, 1, 2))):
            table[draw.choice(names)].add(draw.choice(crowd))
        found.append(tuple(sorted((name, tuple(sorted(members))) for name, members in table.items())))
    return tuple(found)


def drawn_numbers(draw, book, total):
    numbers = [0] * len(book)
    for _ in range(draw.randint(0, total)):
        numbers[draw.randrange(len(book))] += 1
    return tuple(numbers)


def drawn_row(draw, letters):
    """These LETTERS mixed, those of each group in their order."""
    left = {}
    for group, number in sorted(letters):
        left.setdefault(group, []).append((group, number))
    order = [group for group, _ in letters]
    draw.shuffle(order)
    return tuple(left[group].pop(0) for group in order)


def small_numbers(draw, book, most_runs):
    """Numbers of LETTERS with few RUNS, so that the test can list them."""
    while True:
        numbers = drawn_numbers(draw, book, 5)
        if many_runs(book, numbers) <= most_runs:
            return numbers


def all_letters(book, numbers):
    return tuple((entry[0], number) for entry, many in zip(book, numbers) for number in range(1, many + 1))


def crowd_of(book):
    return sorted(set(person for _, members in book for person in members))


def drawn_run(draw, book, numbers):
    """Any RUN, or one with a WEAVING."""
    base = drawn_row(draw, all_letters(book, numbers))
    mixing = draw.random() < 0.6
    run = []
    for person in crowd_of(book):
        mine = [entry[0] for entry in book if person in entry[1]]
        row = tuple(letter for letter in base if letter[0] in mine)
        run.append((person, drawn_row(draw, row) if mixing and draw.random() < 0.7 else row))
    return tuple(run)


def drawn_tree(draw, book):
    """Any TREE of the BOOK."""
    crowd = crowd_of(book)
    draw.shuffle(crowd)
    return tuple(sorted(tuple(sorted((name, draw.choice(crowd[:at])))) for at, name in enumerate(crowd) if at))


def gets_nothing_twice(terms, term):
    """Whether the TERM gets its person nothing that one of the TERMS gets it."""
    for group, person, first, last in terms:
        if (group, person) == term[:2]:
            if (last is None or last >= term[2]) and (term[3] is None or term[3] >= first):
                return False
    return True


def drawn_terms(draw, groups, people, greatest, most):
    """TERMS of these groups and people with numbers of at most greatest."""
    found = []
    for _ in range(draw.randint(0, 2 * most)):
        first = draw.randint(1, greatest)
        last = draw.choice((None, None, first, draw.randint(first, greatest), draw.randint(first, greatest)))
        term = (draw.choice(groups), draw.choice(people), first, last)
        if len(found) < most and gets_nothing_twice(found, term):
            found.append(term)
    return tuple(sorted(found, key=lambda term: term[:3]))


def drawn_came(draw, groups, many):
    """Letters of these groups with stamps that rise in each group, in any order."""
    left = {}
    for stamp in sorted(draw.sample(range(1, draw.choice((many, 2 * many, 60)) + 1), many)):
        left.setdefault(draw.choice(groups), []).append(stamp)
    came = []
    while left:
        group = draw.choice(sorted(left))
        came.append((group, left[group].pop(0)))
        left = {name: rest for name, rest in left.items() if rest}
    return tuple(came)


def bent_runs(draw, run):
    """RUNS with one thing changed: most of them are none."""
    yield list(run)
    yield run[::-1]
    yield run[1:]
    yield run[:-1]
    yield run + run[-1:]
    yield run + (("zzz", ()),)
    yield tuple(person for person, _ in run)
    for at, (person, row) in enumerate(run):
        pairs = [[person, row], (person, list(row)), (person,), (person, row, ()), (person, None), ("zzz", row), (1, row),
                 row, (row, person), (person, row[::-1]), (person, row[1:]), (person, row[:-1]), (person, row + row[-1:]),
                 (person, row + (("a", 1),)), (person, ()), (person, (row,)), ((person,), row), None]
        for place, (group, number) in enumerate(row):
            other = draw.choice(row)
            letters = [[group, number], (group, True), (group, number + 1), (group, number - 1), (group, 0), (group, -1),
                       (group, None), (group, str(number)), (group,), (group, number, 1), ("zzz", number), group, None,
                       (1, number), other, (number, group), ((group, number),), (group, (number,)), (group, 10 ** 30)]
            pairs.extend((person, row[:place] + (letter,) + row[place + 1:]) for letter in letters)
            pairs.append((person, row[:place] + row[place + 1:place + 2] + (row[place],) + row[place + 2:]))
            pairs.append((person, row[:place] + row[place + 1:]))
        for pair in pairs:
            yield run[:at] + (pair,) + run[at + 1:]


def bent_leaves(leaf):
    """Other things in the place of a string, a number, None, True or False."""
    if isinstance(leaf, str):
        return [leaf + "x", "zzz", "", "A", None, 1, (leaf,), [leaf]]
    if leaf is None or isinstance(leaf, bool):
        return [None, True, False, 0, 1, 10 ** 30, "None", (leaf,), ()]
    return [leaf + 1, leaf - 1, -leaf, 0, True, None, str(leaf), (leaf,), 10 ** 30]


def bent(draw, thing):
    """The thing with one thing changed, at any depth: most of what it may be no longer fits."""
    if not isinstance(thing, tuple):
        yield from bent_leaves(thing)
        return
    yield list(thing)
    yield thing[::-1]
    yield thing[1:]
    yield thing[:-1]
    yield thing + thing[-1:]
    yield thing[:1] + thing
    yield (thing,)
    yield ()
    for at, item in enumerate(thing):
        other = draw.choice(thing)
        for new in [other, None] + list(bent(draw, item)):
            yield thing[:at] + (new,) + thing[at + 1:]
        yield thing[:at] + thing[at + 1:]
        yield thing[:at] + thing[at + 1:at + 2] + (item,) + thing[at + 2:]


def wild_run(draw, book, numbers):
    """Any RUN, each row by itself: most of them have RINGS where there are ROUNDS."""
    table = dict(book)
    letters = all_letters(book, numbers)
    return tuple(
        (person, drawn_row(draw, tuple(letter for letter in letters if person in table[letter[0]])))
        for person in crowd_of(book)
    )


def nested(depth, core):
    for _ in range(depth):
        core = (core,)
    return core


THINGS = (
    0, 1, -1, 2, 10 ** 30, -10 ** 30, 10 ** 6000, True, False, None, "", "a", "b", "p", "ab", "A", "a b", "\n", "a\n",
    "abcdefgh", "abcdefghi", "\u00e9", "\uff41", "a" * 5000, (), [], ((),), [[]], ([],), [()], (((),),), (None,), (True,),
    (0,), (1,), ("a",), ["a"], ("a", "b"), ("a", 1), ["a", 1], ("a", True), ("a", "1"), ("a", None), (("a", 1),),
    [("a", 1)], (["a", 1],), (("a", True),), (("a", 1), ("a", 2)), (("a", 2), ("a", 1)), (("a", 1), 3), ((1, "a"),),
    ("a", ("p",)), (("a", ("p",)), None), (("a", ["p"]),), [("a", ("p",))], (["a", ("p",)],), (("a", "p"),),
    (("a", ("p",), ()),), (("a",),), ((("p",), "a"),), (("a", (1,)),), ((1, ("p",)),), ((None, None),),
    ("a", "p", "b", "q"), ["a", "p", "b", "q"], ("a", "p", "b"), ("a", "p", "b", 1), ("a", ("p",), "b", "q"),
    ("a", "p", "b", "p"), ("a", "p", "a", "q"), (("p", ()),), (("p", []),), (("p", None),), (("p", ("a",)),),
    (("p", (("a", 1),)), ("q", ())), (("p", (("a", 0),)),), (("p", ((("a", 1),),)),), nested(11, ()), nested(11, "a"),
    [nested(10, ["a"])], ("a",) * 3000, (("a", 1),) * 3000, tuple(range(3000)),
)
