"""A desk: requests in lines of text, put to a board, and their replies."""

from orderrings.board import Board
from orderrings.errors import BadLine, NoGroup, NoPerson, NothingDone, Unfit
from orderrings.kinds import is_name
from orderrings.texts import book_text, classes_text, row_text, run_text


def _send(board, group):
    return str(board.send(group))


def _get(board, person, group):
    return str(board.get(person, group))


def _share(board, group, other):
    board.share(group, other)
    return "done"


def _join(board, group, person):
    board.join(group, person)
    return "done"


def _leave(board, group, person):
    board.leave(group, person)
    return "done"


def _undo(board):
    board.undo()
    return "done"


def _book(board):
    return book_text(board.book())


def _classes(board):
    return classes_text(board.classes())


def _sent(board):
    return row_text(board.sent())


def _waiting(board, person):
    return row_text(board.waiting(person))


def _can(board, person):
    return row_text(board.can_get(person))


def _rows(board):
    return run_text(board.rows())


def _run(board):
    run = board.run()
    return "-" if run is None else run_text(run)


def _deeds(board):
    return str(len(board))


def _is_round(board):
    return _yes_or_no(board.is_round())


def _is_calm(board):
    return _yes_or_no(board.is_calm())


def _yes_or_no(right):
    return "yes" if right else "no"


# For each first word of a request how many NAMES follow it, and what is done then.
HOW_MANY_NAMES = {
    "send": 1, "get": 2, "share": 2, "join": 2, "leave": 2, "undo": 0, "book": 0, "classes": 0, "sent": 0,
    "waiting": 1, "can": 1, "rows": 0, "run": 0, "deeds": 0, "round": 0, "calm": 0,
}
ACTIONS = {
    "send": _send, "get": _get, "share": _share, "join": _join, "leave": _leave, "undo": _undo, "book": _book,
    "classes": _classes, "sent": _sent, "waiting": _waiting, "can": _can, "rows": _rows, "run": _run,
    "deeds": _deeds, "round": _is_round, "calm": _is_calm,
}


def is_request(thing):
    """Whether thing is a string that is a request."""
    if not isinstance(thing, str):
        return False
    word, *names = thing.split(" ")
    return HOW_MANY_NAMES.get(word) == len(names) and all([is_name(name) for name in names])


def replies(book, text):
    """The list of the replies to the requests in the lines of this text, put to a new Board of the BOOK."""
    lines = text.split("\n") if text else []
    for number, line in enumerate(lines):
        if not is_request(line):
            raise BadLine(number)
    board = Board(book)
    return [_reply(board, line) for line in lines]


def _reply(board, line):
    """The reply to this request, put to the Board."""
    word, *names = line.split(" ")
    action = ACTIONS[word]
    try:
        return action(board, *names)
    except NoGroup:
        return "refused NoGroup"
    except NoPerson:
        return "refused NoPerson"
    except Unfit:
        return "refused Unfit"
    except NothingDone:
        return "refused NothingDone"
