"""[18]: a desk, beside a Board that gets the same deeds and looks."""

import random
import re
import unittest

import reading
from checking import Refusing
from drawing import APART, CHAIN, CIRCLE, FULL, NAMES, RING, ROW, SAME, THINGS, TOLD_BOOKS
from drawing import circle_books, drawn_books
from orderrings import desk, texts
from orderrings.board import Board
from orderrings.errors import BadLine

BOOKS = drawn_books(361, 30) + circle_books(362, 12)
NAME = "[a-z]{1,8}"
GRAMMAR = "|".join(
    [f"(?:send|waiting|can) {NAME}", f"(?:get|share|join|leave) {NAME} {NAME}",
     "undo|book|classes|sent|rows|run|deeds|round|calm"]
)
WORDS = {
    "send": 1, "get": 2, "share": 2, "join": 2, "leave": 2, "undo": 0, "book": 0, "classes": 0, "sent": 0, "waiting": 1,
    "can": 1, "rows": 0, "run": 0, "deeds": 0, "round": 0, "calm": 0,
}
STRANGE = ("\u0661", "\u00e9", "\uff41", "A", "\t", "\r", "\x0b", "\x1f", "\u00a0", "\u2028", "\u3000", "\x00", "\n", "1", "-")
SIGNS = tuple(" abz;:") + STRANGE


def is_request(thing):
    return type(thing) is str and re.fullmatch(GRAMMAR, thing, re.ASCII) is not None


def drawn_request(draw, book):
    """A request; most of its NAMES are groups and people of the BOOK."""
    groups = [group for group, _ in book] * 4 + ["x"]
    crowd = reading.crowd(book) * 4 + ["y"]
    word = draw.choice(list(WORDS) + ["send", "send", "get", "get", "get", "get", "get"])
    if word == "get":
        names = [draw.choice(crowd), draw.choice(groups)]
    elif word in ("join", "leave"):
        names = [draw.choice(groups), draw.choice(crowd)]
    elif word in ("waiting", "can"):
        names = [draw.choice(crowd)]
    else:
        names = [draw.choice(groups) for _ in range(WORDS[word])]
    return " ".join([word] + names)


def yes_or_no(right):
    return {True: "yes", False: "no"}[right]


def plain_reply(board, line):
    """The reply as the document tells it, by what the Board returns or raises."""
    word, *names = line.split(" ")
    try:
        if word in ("send", "get"):
            return str(getattr(board, word)(*names))
        if word in ("share", "join", "leave", "undo"):
            assert getattr(board, word)(*names) is None
            return "done"
        if word == "book":
            return texts.book_text(board.book())
        if word == "classes":
            return texts.classes_text(board.classes())
        if word == "sent":
            return texts.row_text(board.sent())
        if word == "waiting":
            return texts.row_text(board.waiting(*names))
        if word == "can":
            return texts.row_text(board.can_get(*names))
        if word == "rows":
            return texts.run_text(board.rows())
        if word == "run":
            return "-" if board.run() is None else texts.run_text(board.run())
        if word == "deeds":
            return str(len(board))
        return yes_or_no(board.is_round() if word == "round" else board.is_calm())
    except (LookupError, ValueError) as error:
        return "refused " + type(error).__name__


class IsRequest(unittest.TestCase):
    def test_each_request(self):
        for word, many in WORDS.items():
            for names in ([], ["a"], ["a", "b"], ["a", "a"], ["a", "b", "c"], ["abcdefgh"] * many, ["send"] * many):
                line = " ".join([word] + names)
                self.assertIs(desk.is_request(line), len(names) == many, line)
            for names in (["A"], ["abcdefghi"], ["a1"], [""], ["a "], ["-"], ["\u00e9"], ["a\n"]):
                line = " ".join([word] + (["a"] * max(0, many - 1) + names if many else names))
                self.assertIs(desk.is_request(line), False, line)

    def test_bent_at_each_sign(self):
        draw = random.Random(363)
        count = {True: 0, False: 0}
        lines = [drawn_request(draw, draw.choice(BOOKS)) for _ in range(60)] + list(WORDS)
        for line in lines:
            for at in range(len(line) + 1):
                new = [line[:at] + line[at + 1:], line[:at] + line[at:at + 1] * 2 + line[at + 1:], line.upper(), line.title()]
                new += [line[:at] + sign + line[at:] for sign in SIGNS] + [line[:at] + sign + line[at + 1:] for sign in SIGNS]
                for thing in new:
                    count[is_request(thing)] += 1
                    self.assertIs(desk.is_request(thing), is_request(thing), thing)
        self.assertGreater(count[False], 10000)
        self.assertGreater(count[True], 1000)

    def test_things_of_all_kinds(self):
        for thing in THINGS:
            for bent_thing in (thing, (thing,), [thing], ["undo"], ("undo",), ("send", "a"), ["send", "a"]):
                self.assertIs(desk.is_request(bent_thing), is_request(bent_thing))
        for thing in ("undo", "calm", "send a"):
            self.assertIs(desk.is_request(thing), True)
            self.assertIs(desk.is_request([thing]), False)
            self.assertIs(desk.is_request((thing,)), False)
        for thing in ("", " ", "undo ", " undo", "undo\n", "send  a", "send a ", "Send a", "twin", "is_round", "can_get p", "len",
                      "get", "get p", "book a", "x" * 100000, "send " + "a" * 9, "send\ta", "send\u00a0a", "calm calm"):
            self.assertIs(desk.is_request(thing), False, thing)


class Replies(Refusing):
    def test_beside_a_board(self):
        draw = random.Random(364)
        count = {}
        for book in (BOOKS + TOLD_BOOKS) * 6:
            lines = [drawn_request(draw, book) for _ in range(draw.choice((1, 10, 40, 60)))]
            board = Board(book)
            expected = [plain_reply(board, line) for line in lines]
            found = desk.replies(book, "\n".join(lines))
            self.assertIs(type(found), list)
            self.assertEqual(found, expected, lines)
            for line, reply in zip(lines, found):
                key = (line.split(" ")[0], reply if reply.startswith("refused") else "")
                count[key] = count.get(key, 0) + 1
        for word in WORDS:
            self.assertGreater(count[word, ""], 30)
        for key in (("send", "NoGroup"), ("get", "NoPerson"), ("get", "NoGroup"), ("get", "Unfit"), ("share", "NoGroup"),
                    ("share", "Unfit"), ("join", "NoGroup"), ("join", "Unfit"), ("leave", "NoGroup"), ("leave", "NoPerson"),
                    ("leave", "Unfit"), ("undo", "NothingDone"), ("waiting", "NoPerson"), ("can", "NoPerson")):
            self.assertGreater(count[key[0], "refused " + key[1]], 5, key)

    def test_looks_in_words(self):
        """The looks, with the replies written out by the test itself."""
        told = desk.replies(ROW, "book\nclasses\nsent\nrows\nrun\ndeeds\nround\ncalm\nwaiting p\ncan q")
        self.assertEqual(told, [
            "a: p; b: p q; c: q r s", "a; b; c", "-", "p: -; q: -; r: -; s: -", "p: -; q: -; r: -; s: -", "0", "no", "yes", "-", "-",
        ])
        told = desk.replies(RING, "send a\nsend b\nshare a b\nshare c c\nclasses\nundo\nshare a c\nget r a\nrows\nrun\ncan p\nwaiting q")
        self.assertEqual(told, [
            "1", "1", "refused Unfit", "done", "a; b; c", "done", "refused Unfit", "1", "p: -; q: -; r: a1", "-", "a1 b1", "b1",
        ])

    def test_refused_ones_change_nothing(self):
        draw = random.Random(365)
        looks = ["book", "classes", "sent", "rows", "run", "deeds", "round", "calm"]
        some = 0
        for book in BOOKS:
            lines = [drawn_request(draw, book) for _ in range(20)]
            told = desk.replies(book, "\n".join(lines))
            left = [line for line, reply in zip(lines, told) if not reply.startswith("refused")]
            some += len(lines) - len(left)
            self.assertEqual(desk.replies(book, "\n".join(lines + looks))[20:], desk.replies(book, "\n".join(left + looks))[len(left):])
        self.assertGreater(some, 100)

    def test_each_error(self):
        lines = {
            "send x": "NoGroup", "get z a": "NoPerson", "get p x": "NoGroup", "get p a": "Unfit", "get z x": "NoPerson",
            "share x y": "NoGroup", "share a y": "NoGroup", "join x p": "NoGroup", "leave x p": "NoGroup", "leave a z": "NoPerson",
            "undo": "NothingDone", "waiting z": "NoPerson", "can z": "NoPerson",
        }
        for line, error in lines.items():
            self.assertEqual(desk.replies(RING, line), ["refused " + error])
        self.assertEqual(desk.replies(ROW, "leave a p\njoin a z\nleave a p\nleave a z"), ["refused Unfit", "done", "done", "refused Unfit"])

    def test_line_feeds(self):
        self.assertEqual(desk.replies(RING, ""), [])
        for text, number in (("\n", 0), ("calm\n", 1), ("\ncalm", 0), ("calm\n\ncalm", 1), ("calm\ncalm\n", 2), ("calm\n\n", 1),
                             (" ", 0), ("calm\r\ncalm", 0), ("calm\x0bcalm", 0), ("calm\u2028calm", 0), ("calm\x1ccalm", 0),
                             ("calm\x85calm", 0), ("calm\rcalm", 0), ("calm\x0ccalm", 0)):
            self.refused(BadLine, {"number": number}, desk.replies, RING, text)

    def test_bad_lines_ahead_of_all_else(self):
        draw = random.Random(366)
        for book in BOOKS:
            lines = [drawn_request(draw, book) for _ in range(draw.randint(1, 30))]
            for _ in range(4):
                bad = list(lines)
                for at in draw.sample(range(len(lines)), draw.randint(1, min(3, len(lines)))):
                    bad[at] = draw.choice(("", "look", "send", "send A", "get p", "undo ", " calm", "Calm", "refused", "1", "get p a b"))
                first = next(at for at, line in enumerate(bad) if not is_request(line))
                self.refused(BadLine, {"number": first}, desk.replies, book, "\n".join(bad))
        self.refused(BadLine, {"number": 2}, desk.replies, RING, "send x\nundo\nlook")

    def test_the_same_again_and_new(self):
        text = "send a\nget p a\nsent\nrows"
        first = desk.replies(RING, text)
        first.append("x")
        self.assertEqual(desk.replies(RING, text), ["1", "1", "a1", "p: a1; q: -; r: -"])
        nothing = desk.replies(RING, "")
        nothing.append("x")
        self.assertEqual(desk.replies(RING, ""), [])

    def test_lists_and_names(self):
        draw = random.Random(367)
        for book in BOOKS:
            lists = [[group, list(members)] for group, members in book]
            text = "\n".join(drawn_request(draw, book) for _ in range(12))
            told = desk.replies(book, text)
            self.assertEqual(desk.replies(lists, text), told)
            self.assertEqual(desk.replies(text=text, book=lists), told)
            self.assertEqual(lists, [[group, list(members)] for group, members in book])
        self.assertIs(desk.is_request(thing="undo"), True)

    def test_sixty_lines(self):
        draw = random.Random(368)
        for book in (FULL, CIRCLE, CHAIN, APART, SAME):
            for _ in range(3):
                lines = [drawn_request(draw, book) for _ in range(60)]
                board = Board(book)
                self.assertEqual(desk.replies(book, "\n".join(lines)), [plain_reply(board, line) for line in lines])
        lines = ["send a"] * 24 + ["get p a"] * 24 + ["rows", "round", "calm", "deeds"] + ["undo"] * 8
        told = desk.replies(FULL, "\n".join(lines))
        self.assertEqual(told[:48], [str(number) for number in range(1, 25)] * 2)
        self.assertEqual(told[49:], ["no", "no", "48"] + ["done"] * 8)
        self.assertEqual(told[48].split("; ")[0], "p: " + " ".join(f"a{number}" for number in range(1, 25)))
        self.refused(BadLine, {"number": 0}, desk.replies, FULL, "\n".join(["~" * 400] * 60))
        self.refused(BadLine, {"number": 59}, desk.replies, FULL, "\n".join(["undo"] * 59 + ["x" * 400]))

    def test_names_that_are_words(self):
        book = (("send", ("get", "run")), ("undo", ("run",)))
        told = desk.replies(book, "send send\nget run send\nsend undo\nwaiting run\nshare undo undo\njoin undo get\nbook\nrun\nleave undo undo")
        self.assertEqual(told, ["1", "1", "1", "undo1", "refused Unfit", "refused Unfit", "send: get run; undo: run", "-", "refused NoPerson"])
        self.assertEqual(desk.replies(book, "send " + NAMES[0]), ["refused NoGroup"])


if __name__ == "__main__":
    unittest.main()
