"""Texts of books, rows, runs and classes, written and read."""

from orderrings.books import is_book
from orderrings.errors import BadText
from orderrings.kinds import is_name, is_name_set, rises


def book_text(book):
    """The text of the BOOK."""
    return "; ".join([group + ": " + " ".join(members) for group, members in book])


def row_text(row):
    """The text of this row of LETTERS."""
    return " ".join([group + str(number) for group, number in row]) if row else "-"


def run_text(rows):
    """The text of these pairs of a NAME and a row of LETTERS."""
    return "; ".join([name + ": " + row_text(row) for name, row in rows])


def classes_text(classes):
    """The text of this set of sets of NAMES."""
    return "; ".join([" ".join(some) for some in classes])


def _named_parts(text):
    """The list of the pairs of what stands ahead of the first colon and behind it, for each part of the text.

    Where there is no colon, nothing stands behind it: and that is the text of nothing.
    """
    parts = [part.partition(": ") for part in text.split("; ")]
    return [(name, rest) for name, _, rest in parts]


def book_in(text):
    """The BOOK with this text."""
    book = tuple([(group, tuple(names.split(" "))) for group, names in _named_parts(text)])
    if not is_book(book):
        raise BadText()
    return book


def row_in(text):
    """The tuple of LETTERS with this text."""
    if text == "-":
        return ()
    return tuple([_letter_in(word) for word in text.split(" ")])


def _letter_in(word):
    """The LETTER with this text."""
    group = word.rstrip("0123456789")
    digits = word[len(group):]
    if not is_name(group) or not digits or digits[0] == "0":
        raise BadText()
    return (group, int(digits))


def run_in(text):
    """The ascending tuple of pairs of a NAME and a row of LETTERS with this text."""
    rows = tuple([(name, row_in(row)) for name, row in _named_parts(text)])
    if not is_name_set(tuple([name for name, _ in rows])):
        raise BadText()
    return rows


def classes_in(text):
    """The set of sets of NAMES with this text."""
    classes = tuple([tuple(names.split(" ")) for names in text.split("; ")])
    if not all([is_name_set(some) for some in classes]) or not rises(classes):
        raise BadText()
    return classes
