"""Rows of LETTERS side by side: what stands behind what in some row, and whether that goes round."""


def can_be_woven(rows):
    """Whether there is one row of all LETTERS of these rows in the order of which each of them is."""
    left = [row for row in rows if row]
    while left:
        behind = {letter: True for row in left for letter in row[1:]}
        free = [row[0] for row in left if row[0] not in behind]
        if not free:
            return False
        shorter = [row[1:] if row[0] in free else row for row in left]
        left = [row for row in shorter if row]
    return True


def behind_of(rows):
    """For each LETTER of these rows the ascending list of those that stand behind it in some row."""
    behind = {}
    for row in rows:
        for place, letter in enumerate(row):
            behind.setdefault(letter, []).extend(row[place + 1:])
    return {letter: sorted(set(others)) for letter, others in behind.items()}


def all_behind(behind, start):
    """A dict of the LETTERS that come behind this one, at once or by others between: itself, too, if it goes round."""
    found = {}
    waiting = [start]
    while waiting:
        here = waiting.pop()
        for letter in behind[here]:
            if letter not in found:
                found[letter] = True
                waiting.append(letter)
    return found


def shortest_circle(behind):
    """A row of the fewest LETTERS, each ahead of the next one, the last one of the first one; None if there is none."""
    best = None
    for start in sorted(list(behind)):
        circle = _circle_from(behind, start)
        if circle is not None and (best is None or len(circle) < len(best)):
            best = circle
    return best


def _circle_from(behind, start):
    """Such a row begun at start, with the fewest LETTERS; None if there is none."""
    ways = {start: (start,)}
    ends = [start]
    while ends:
        following = []
        for here in ends:
            if start in behind[here]:
                return ways[here]
            for letter in behind[here]:
                if letter not in ways:
                    ways[letter] = ways[here] + (letter,)
                    following.append(letter)
        ends = following
    return None


def circles_from(behind, start, many):
    """The list of all such rows of just so many LETTERS, start being the least of them.

    There must be no such row of fewer LETTERS: so none of the rows found has a LETTER twice.
    """
    back = _steps_back(behind, start)
    rows = [(start,)]
    for left in range(many - 1, 0, -1):
        rows = [
            row + (letter,)
            for row in rows
            for letter in behind[row[-1]]
            if letter > start and back.get(letter, many) <= left
        ]
    return rows


def _steps_back(behind, start):
    """For each LETTER from which steps to one behind it lead to start the fewest such steps."""
    steps = {start: 0}
    ends = [start]
    while ends:
        many = steps[ends[0]] + 1
        ends = [
            letter
            for letter, others in behind.items()
            if letter not in steps and any([end in others for end in ends])
        ]
        for here in ends:
            steps[here] = many
    return steps
