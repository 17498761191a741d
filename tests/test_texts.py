"""[17]: texts of books, rows, runs and classes, against a plain grammar, with each text bent at each sign."""

import itertools
import random
import re
import unittest

import reading
from checking import Refusing
from drawing import FULL, NAMES, RING, ROW, TOLD_BOOKS
from drawing import all_letters, circle_books, drawn_book, drawn_books, drawn_numbers, drawn_row, drawn_run, some_names, wild_run
from orderrings import texts
from orderrings.errors import BadText

BOOKS = drawn_books(341, 40) + circle_books(342, 10) + (FULL,)
GREAT = 10 ** 30
NAME = "[a-z]{1,8}"
LETTER = NAME + "[1-9][0-9]*"
ROW_TEXT = f"(?:-|{LETTER}(?: {LETTER})*)"
GRAMMAR = {
    "book_in": f"{NAME}: {NAME}(?: {NAME})*(?:; {NAME}: {NAME}(?: {NAME})*)*",
    "row_in": ROW_TEXT,
    "run_in": f"{NAME}: {ROW_TEXT}(?:; {NAME}: {ROW_TEXT})*",
    "classes_in": f"{NAME}(?: {NAME})*(?:; {NAME}(?: {NAME})*)*",
}
# Digits and letters of other scripts, and signs that others take for blanks or ends of lines.
STRANGE = ("\u0661", "\u00b2", "\uff11", "\u00e9", "\uff41", "\u0430", "A", "Z", "\t", "\r", "\x0b", "\x1f", "\u00a0", "\u2028",
           "\u3000", "\x00", "\n")
SIGNS = tuple(" abz019:;-,._+") + STRANGE
ODD_TEXTS = ("", " ", "-", "--", "- -", ":", ";", "; ", ": ", "a", "a:", "a: ", "a :p", "a: p;", "a: p; ", "; a: p", "1", "01", "a1",
             "a01", "a0", "a00", "a-1", "a+1", "a1.0", "a1_0", "1a", "a1b", "a 1", "a1 ", " a1", "a1  a2", "a1,a2", "a1 -", "- a1",
             "p: -; q: a1", "p: --", "p: - -", "p:-", "p: ", "p", "p: a1;q: -", "abcdefghi", "abcdefghi1", "abcdefgh1", "a: abcdefghi",
             "a: p p", "a: q p", "a: p; a: q", "a: p; b: q; ab: r", "a; a", "a b; a", "b; a", "a; a b", "a b; a c", "a a", "b a",
             "a: p: q", "a: p; b", "A", "A1", "A: p", "a: P", "a\n", "a1\n", "a: p\n", "\na", "a;\nb", "a\u0661", "a1\u0662", "\u00e9",
             "a: \u00e9", "a: p;  b: q", "a:  p", "a: p  q", "a : p", "x" * 400, ("a1 " * 133).strip(), "a" + "9" * 399)


def plain_names(text):
    return tuple(text.split(" "))


def plain_row(text):
    letters = () if text == "-" else tuple(re.fullmatch("([a-z]+)([0-9]+)", word).groups() for word in text.split(" "))
    return tuple((group, int(number)) for group, number in letters)


def rises(values):
    return list(values) == sorted(set(values))


def plain_read(name, text):
    """What has this text, by the words of the document; None if there is nothing."""
    if not re.fullmatch(GRAMMAR[name], text, re.ASCII):
        return None
    if name == "row_in":
        return plain_row(text)
    if name == "classes_in":
        sets = tuple(plain_names(part) for part in text.split("; "))
        return sets if rises(sets) and all(rises(some) for some in sets) else None
    pairs = [part.split(": ") for part in text.split("; ")]
    read = plain_names if name == "book_in" else plain_row
    found = tuple((first, read(rest)) for first, rest in pairs)
    if not rises([first for first, _ in found]) or name == "book_in" and not all(rises(members) for _, members in found):
        return None
    return found


def drawn_letters(draw):
    """A row of any LETTERS, also one twice and great ones."""
    numbers = (1, 2, 9, 10, 11, 100, GREAT, draw.randint(1, GREAT))
    return tuple((draw.choice(NAMES), draw.choice(numbers)) for _ in range(draw.choice((0, 1, 2, 5))))


def drawn_sets(draw):
    sets = set(some_names(draw, 1, 3) for _ in range(draw.randint(1, 5)))
    return tuple(sorted(sets))


def written(draw, many):
    """Triples: the name of a function that reads, a text, and what has it."""
    for _ in range(many):
        book = drawn_book(draw)
        yield "book_in", texts.book_text(book), book
        row = drawn_letters(draw)
        yield "row_in", texts.row_text(row), row
        rows = tuple((name, drawn_letters(draw)) for name in some_names(draw, 1, 4))
        yield "run_in", texts.run_text(rows), rows
        sets = drawn_sets(draw)
        yield "classes_in", texts.classes_text(sets), sets


def bent_texts(text):
    """The text with a sign more, less, twice or another one, at each place."""
    for at in range(len(text) + 1):
        for sign in SIGNS:
            yield text[:at] + sign + text[at:]
            yield text[:at] + sign + text[at + 1:]
        yield text[:at] + text[at + 1:]
        yield text[:at] + text[at:at + 1] * 2 + text[at + 1:]
        yield text[:at] + text[at + 1:at + 2] + text[at:at + 1] + text[at + 2:]


class Texts(Refusing):
    def told(self, name, text):
        """The function reads the text as the plain grammar does."""
        right = plain_read(name, text)
        if right is None:
            self.refused(BadText, {}, getattr(texts, name), text)
        else:
            self.assertEqual(reading.outcome(getattr(texts, name), text), "returns " + repr(right))
        return right is not None


class Written(Texts):
    def test_book_text(self):
        for book in BOOKS:
            parts = [group + ": " + " ".join(members) for group, members in book]
            self.assertEqual(texts.book_text(book), "; ".join(parts))
            self.assertEqual(texts.book_in(texts.book_text(book)), book)

    def test_row_text(self):
        draw = random.Random(343)
        for _ in range(300):
            row = drawn_letters(draw)
            text = texts.row_text(row)
            self.assertEqual(text, " ".join(f"{group}{number}" for group, number in row) or "-")
            self.assertEqual(texts.row_in(text), row)

    def test_run_text_of_runs(self):
        draw = random.Random(344)
        for book in BOOKS:
            for call in (drawn_run, wild_run):
                run = call(draw, book, drawn_numbers(draw, book, 12))
                text = "; ".join(name + ": " + texts.row_text(row) for name, row in run)
                self.assertEqual(texts.run_text(run), text)
                self.assertEqual(texts.run_in(text), run)

    def test_written_and_read_again(self):
        for name, text, value in written(random.Random(345), 300):
            self.assertTrue(re.fullmatch(GRAMMAR[name], text))
            self.assertEqual(reading.outcome(getattr(texts, name), text), "returns " + repr(value))

    def test_classes_text(self):
        draw = random.Random(346)
        for _ in range(200):
            sets = drawn_sets(draw)
            self.assertEqual(texts.classes_text(sets), "; ".join(" ".join(some) for some in sets))
            self.assertEqual(texts.classes_in(texts.classes_text(sets)), sets)
        for book in TOLD_BOOKS:
            for sets in reading.partings([group for group, _ in book]):
                self.assertEqual(texts.classes_in(texts.classes_text(sets)), sets)

    def test_lists_and_names(self):
        draw = random.Random(347)
        for _, text, value in written(draw, 60):
            self.assertIs(type(text), str)
        for book in BOOKS:
            lists = [[group, list(members)] for group, members in book]
            self.assertEqual(texts.book_text(lists), texts.book_text(book))
            self.assertEqual(texts.book_text(book=lists), texts.book_text(book))
            self.assertEqual(lists, [[group, list(members)] for group, members in book])
        row = (("a", 1), ("bc", 10))
        self.assertEqual([texts.row_text([list(letter) for letter in row]), texts.row_text(row=list(row))], ["a1 bc10"] * 2)
        self.assertEqual([texts.row_text([]), texts.run_text([["p", []]])], ["-", "p: -"])
        self.assertEqual([texts.run_text(rows=[["p", [["a", 1]]], ("q", [])])], ["p: a1; q: -"])
        self.assertEqual([texts.classes_text([["a", "b"], ("c",)]), texts.classes_text(classes=(("c",),))], ["a b; c", "c"])
        self.assertEqual((texts.book_in(text="a: p"), texts.row_in(text="a1")), ((("a", ("p",)),), (("a", 1),)))
        self.assertEqual((texts.run_in(text="a: -"), texts.classes_in(text="a")), ((("a", ()),), (("a",),)))


class Bent(Texts):
    def test_at_each_sign(self):
        count = {True: 0, False: 0}
        for name, text, _ in written(random.Random(348), 12):
            if len(text) < 60:
                for bent in bent_texts(text):
                    count[self.told(name, bent)] += 1
        self.assertGreater(count[False], 20000)
        self.assertGreater(count[True], 2000)

    def test_odd_texts(self):
        count = {True: 0, False: 0}
        for text in ODD_TEXTS + SIGNS:
            for name in GRAMMAR:
                count[self.told(name, text)] += 1
        self.assertGreater(min(count.values()), 10)

    def test_all_short_texts(self):
        for many in range(6):
            for signs in itertools.product("ab1 :;-", repeat=many):
                for name in GRAMMAR:
                    self.told(name, "".join(signs))

    def test_any_string(self):
        draw = random.Random(349)
        count = {True: 0, False: 0}
        for _ in range(4000):
            signs = draw.choice((SIGNS, "ab1: ;-", "ab: ;", "a1 ", "ab "))
            text = "".join(draw.choice(signs) for _ in range(draw.randint(0, 14)))
            for name in GRAMMAR:
                count[self.told(name, text)] += 1
        self.assertGreater(min(count.values()), 200)

    def test_other_kinds_of_texts(self):
        for own, text, _ in written(random.Random(350), 80):
            for name in GRAMMAR:
                self.told(name, text)
                self.assertTrue(name != own or self.told(name, text))

    def test_out_of_order_and_twice(self):
        draw = random.Random(351)
        for own, text, _ in written(draw, 80):
            parts = text.split("; ")
            for parts in (parts[::-1], parts + parts[:1], parts + parts[-1:], parts[:1] + parts):
                self.told(own, "; ".join(parts))
            words = text.split(" ")
            for words in (words[::-1], words + words[:1], words + words[-1:]):
                self.told(own, " ".join(words))
        self.refused(BadText, {}, texts.book_in, "a: p; a: p")
        self.refused(BadText, {}, texts.book_in, "a: q p")
        self.refused(BadText, {}, texts.run_in, "q: -; p: -")
        self.refused(BadText, {}, texts.classes_in, "a b; a b")
        self.refused(BadText, {}, texts.classes_in, "b a")
        self.assertEqual(texts.row_in("a2 a1 a1"), (("a", 2), ("a", 1), ("a", 1)))

    def test_signs_of_other_scripts(self):
        for sign in STRANGE:
            for text in ("a" + sign, sign + "1", "a1" + sign, "a" + sign + "1", sign):
                self.refused(BadText, {}, texts.row_in, text)
                self.refused(BadText, {}, texts.run_in, "p: " + text)
            for text in (sign + ": p", "a: " + sign, "a: p" + sign, "a: p" + sign + "q", "a:" + sign + "p", "a: p;" + sign + "b: q"):
                self.refused(BadText, {}, texts.book_in, text)
            for text in (sign, "a" + sign, "a" + sign + "b", "a;" + sign + "b"):
                self.refused(BadText, {}, texts.classes_in, text)


class Bounds(Texts):
    def test_long_texts(self):
        self.assertEqual(texts.row_in("a" + "9" * 399), (("a", 10 ** 399 - 1),))
        self.assertEqual(texts.row_text((("a", 10 ** 398),)), "a1" + "0" * 398)
        self.refused(BadText, {}, texts.row_in, "a0" + "9" * 398)
        self.assertEqual(texts.row_in(("a1 " * 133).strip()), (("a", 1),) * 133)
        names = ["".join(signs) for signs in itertools.product("abcdefghij", repeat=2)]
        book = tuple((name, (name,)) for name in names[:60])
        self.assertEqual(texts.book_in(texts.book_text(book)), book)
        sets = tuple((name,) for name in names)
        self.assertEqual(texts.classes_in(texts.classes_text(sets)), sets)
        rows = tuple((name, ()) for name in names[:60])
        self.assertEqual(texts.run_in(texts.run_text(rows)), rows)
        for name in GRAMMAR:
            self.refused(BadText, {}, getattr(texts, name), "\n".join(["a: p; b: q"] * 60))
            self.refused(BadText, {}, getattr(texts, name), "~" * 400)

    def test_24_letters_and_eight_people(self):
        draw = random.Random(352)
        for book in (FULL, RING, ROW):
            run = wild_run(draw, book, tuple(24 // len(book) for _ in book))
            self.assertEqual(texts.run_in(texts.run_text(run)), run)
            row = drawn_row(draw, all_letters(book, tuple(24 // len(book) for _ in book)))
            self.assertEqual(texts.row_in(texts.row_text(row)), row)


if __name__ == "__main__":
    unittest.main()
