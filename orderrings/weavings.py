"""Weavings, built letter by letter from what may come next.

What has come so far is told as a tuple of pairs (group, number), ascending, one
for each group: the number of LETTERS of it that have come. As those of a group come
in their order, this tells all, and there are few such tuples.
"""


def needs_of(rows):
    """For each LETTER of these rows a dict: how many LETTERS of each group have to come ahead of it."""
    needs = {}
    for row in rows:
        ahead = {}
        for letter in row:
            need = needs.setdefault(letter, {})
            for group, number in ahead.items():
                need[group] = max(need.get(group, 0), number)
            ahead[letter[0]] = letter[1]
    return needs


def nothing_yet(needs):
    """What has come at first: no LETTER of any group."""
    return tuple([(group, 0) for group in sorted({name for name, _ in needs})])


def next_letters(needs, done):
    """The ascending list of the LETTERS that may come next."""
    counts = dict(done)
    found = []
    for group, number in done:
        need = needs.get((group, number + 1))
        if need is not None and all([counts[other] >= least for other, least in need.items()]):
            found.append((group, number + 1))
    return found


def with_letter(done, letter):
    """What has come when this LETTER has, too."""
    return tuple([letter if pair[0] == letter[0] else pair for pair in done])


def is_all(needs, done):
    """Whether all LETTERS have come."""
    return sum([number for _, number in done]) == len(needs)


def least_weaving(rows):
    """The least row of all LETTERS of these rows in the order of which each of them is; None if there is none.

    The LETTERS of each group must be numbered from 1, and stand in this order in each row.
    """
    needs = needs_of(rows)
    done = nothing_yet(needs)
    found = []
    free = next_letters(needs, done)
    while free:
        # What may come now may come later, too: so the least one never bars the way.
        found.append(free[0])
        done = with_letter(done, free[0])
        free = next_letters(needs, done)
    return tuple(found) if is_all(needs, done) else None


def ways_on(needs, done, known):
    """In how many orders the LETTERS can come that have not; known keeps what was told before."""
    if done not in known:
        ways = 1 if is_all(needs, done) else 0
        for letter in next_letters(needs, done):
            ways = ways + ways_on(needs, with_letter(done, letter), known)
        known[done] = ways
    return known[done]


def apart_places(book):
    """The list of the tuples of one or more places of groups in the BOOK no two of which have a member in common."""
    found = [()]
    for at, entry in enumerate(book):
        found = found + [places + (at,) for places in found if _is_apart(book, places, entry[1])]
    return found[1:]


def _is_apart(book, places, members):
    return not any([person in book[at][1] for at in places for person in members])


def woven_runs(firsts, left, known):
    """How many RUNS with a WEAVING there are of the LETTERS that are left, so many of each group.

    firsts are the apart_places of the BOOK: just LETTERS of such groups can all be the first
    ones for everybody who gets them, and what comes behind them is any RUN with a WEAVING.
    """
    if left not in known:
        ways = 0 if sum(left) > 0 else 1
        for places in firsts:
            if all([left[at] > 0 for at in places]):
                fewer = tuple([many - 1 if at in places else many for at, many in enumerate(left)])
                rest = woven_runs(firsts, fewer, known)
                # A RUN with several such first LETTERS comes up for each set of them: this leaves it counted once.
                ways = ways + rest if len(places) % 2 == 1 else ways - rest
        known[left] = ways
    return known[left]
