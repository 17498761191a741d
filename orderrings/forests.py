"""MEMBERSHIPS that make no ROUND: the web as trees."""

from orderrings.kinds import as_set


def closing_ties(ties):
    """The list of those of these MEMBERSHIPS each of which makes a ROUND with some ahead of it, in their order.

    The others are as many as can be without a ROUND.
    """
    # (0, group) stands for a group, (1, person) for a person: they may have the same NAME.
    tree_of = {}
    found = []
    for group, person in ties:
        one = tree_of.setdefault((0, group), [(0, group)])
        other = tree_of.setdefault((1, person), [(1, person)])
        if (1, person) in one:
            found.append((group, person))
        else:
            joined = one + other
            for node in joined:
                tree_of[node] = joined
    return found


def is_without_round(ties):
    """Whether there is no ROUND of these MEMBERSHIPS alone."""
    return not closing_ties(ties)


def how_many_forests(ties, roots):
    """How many sets of as many of these MEMBERSHIPS as can be are without a ROUND; roots has one group of each part.

    By Kirchhoff's theorem it is the determinant of the matrix that has, for all groups and people
    but the roots, how many MEMBERSHIPS each has, and -1 for each two that have one.
    """
    nodes = as_set([(0, group) for group, _ in ties if group not in roots] + [(1, person) for _, person in ties])
    return _determinant([[_entry(ties, one, other) for other in nodes] for one in nodes])


def _entry(ties, one, other):
    """What the matrix has in the row of this group or person and the column of that one."""
    if one == other:
        return len([tie for tie in ties if tie[one[0]] == one[1]])
    low, high = min(one, other), max(one, other)
    return -1 if low[0] < high[0] and (low[1], high[1]) in ties else 0


def _determinant(matrix):
    """The determinant of a matrix that has no upper left corner with the determinant 0."""
    rows = [list(row) for row in matrix]
    before = 1
    for at in range(len(rows) - 1):
        for low in range(at + 1, len(rows)):
            for place in range(at + 1, len(rows)):
                crossed = rows[low][place] * rows[at][at] - rows[low][at] * rows[at][place]
                # All numbers are determinants of parts of the matrix, so this division leaves nothing over.
                rows[low][place] = crossed // before
        before = rows[at][at]
    return rows[-1][-1]
