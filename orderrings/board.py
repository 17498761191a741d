"""A board: a book, its classes, and what everybody got so far."""

from orderrings.books import need_group, need_person, people, with_member, without_member
from orderrings.circles import can_be_woven
from orderrings.classes import are_right, lone_classes, merged
from orderrings.errors import NothingDone, Unfit
from orderrings.kinds import as_set, as_tuples
from orderrings.rows import letters_of, rows_in


class Board:
    """A BOOK, CLASSES of it, what was sent, and the rows of what everybody got so far.

    All that is so now is kept in one tuple: so each deed keeps the tuple from before it to be undone.
    """

    def __init__(self, book):
        first = as_tuples(book)
        self._now = (first, lone_classes(first), (), tuple([(person, ()) for person in people(first)]))
        self._past = []

    def __eq__(self, other):
        return isinstance(other, Board) and self._now == other._now

    def __len__(self):
        return len(self._past)

    def book(self):
        """The BOOK."""
        return self._now[0]

    def classes(self):
        """The CLASSES."""
        return self._now[1]

    def sent(self):
        """All LETTERS in the order in which they were sent."""
        return self._now[2]

    def rows(self):
        """The pairs of each person and the row of the LETTERS that this person got so far."""
        return self._now[3]

    def waiting(self, person):
        """The LETTERS that this person is still to get, as sent."""
        need_person(self.book(), person)
        return self._left_for(person)

    def _left_for(self, person):
        """The same for one of the people."""
        own = [group for group, members in self.book() if person in members]
        got = dict(self.rows())[person]
        return tuple([letter for letter in letters_of(self.sent(), own) if letter not in got])

    def can_get(self, person):
        """The set of the LETTERS that this person can get next: of each class the one that was sent first."""
        left = self.waiting(person)
        return as_set([letter for some in self.classes() for letter in letters_of(left, some)[:1]])

    def is_round(self):
        """Whether some LETTERS are seen round so far."""
        return not can_be_woven(rows_in(self.rows()))

    def is_calm(self):
        """Whether no RUN that keeps the CLASSES has a RING."""
        return are_right(self.book(), self.classes())

    def run(self):
        """The RUN, if nobody is to get anything any more; otherwise None."""
        return None if any([self._left_for(person) for person, _ in self.rows()]) else self.rows()

    def _do(self, book, classes, sent, rows):
        """One deed, behind which all is so."""
        self._past.append(self._now)
        self._now = (book, classes, sent, rows)

    def send(self, group):
        """Sends one more LETTER to this group, and returns its number."""
        need_group(self.book(), group)
        number = len(letters_of(self.sent(), (group,))) + 1
        self._do(self.book(), self.classes(), self.sent() + ((group, number),), self.rows())
        return number

    def get(self, person, group):
        """Lets the person get the first LETTER of this group that it is still to get, and returns its number."""
        need_person(self.book(), person)
        need_group(self.book(), group)
        first = letters_of(self._left_for(person), (group,))[:1]
        if not first or first[0] not in self.can_get(person):
            raise Unfit()
        rows = tuple([(name, row + first) if name == person else (name, row) for name, row in self.rows()])
        self._do(self.book(), self.classes(), self.sent(), rows)
        return first[0][1]

    def _need_nothing_sent(self, some):
        """Raises Unfit if anything was sent to a group of the classes of these groups."""
        for own in self.classes():
            if any([group in own for group in some]) and letters_of(self.sent(), own):
                raise Unfit()

    def share(self, one, other):
        """Makes the classes of both groups one."""
        need_group(self.book(), one)
        need_group(self.book(), other)
        self._need_nothing_sent((one, other))
        self._do(self.book(), merged(self.classes() + ((one, other),)), self.sent(), self.rows())

    def join(self, group, person):
        """Makes the person a member of the group."""
        need_group(self.book(), group)
        self._need_nothing_sent((group,))
        self._do_members(with_member(self.book(), group, person))

    def leave(self, group, person):
        """Makes the person no member of the group."""
        need_group(self.book(), group)
        need_person(self.book(), person)
        self._need_nothing_sent((group,))
        self._do_members(without_member(self.book(), group, person))

    def _do_members(self, book):
        """One deed, behind which the BOOK is this one, with the same groups."""
        # Who comes got nothing so far; who is in no group any more got nothing either, and is gone.
        row_of = dict(self.rows())
        rows = tuple([(person, row_of.get(person, ())) for person in people(book)])
        self._do(book, self.classes(), self.sent(), rows)

    def undo(self):
        """Undoes the last deed that is not undone."""
        if not self._past:
            raise NothingDone()
        self._now = self._past.pop()

    def twin(self):
        """An equal Board, with the same deeds to be undone, that shares nothing with this one."""
        mate = Board(self.book())
        mate._now = self._now
        mate._past = list(self._past)
        return mate
