"""[2]: each function called in all ways that the document allows."""

import copy
import functools
import random
import unittest

from calls import drawn_calls
from drawing import RING
from interface import FUNCTIONS
from orderrings import asked, desk, judged, some, trees, webs
from reading import outcome

CALLS = list(drawn_calls())
LISTING = (
    webs.rounds, judged.short_rings, trees.best_trees, some.quarrels, some.greatest_agreeing, asked.classes_kept, desk.replies,
)


def as_lists(value):
    if isinstance(value, (list, tuple)):
        return [as_lists(item) for item in value]
    return value


def mixed(draw, value):
    """Lists and tuples at any depth, as it comes."""
    if isinstance(value, (list, tuple)):
        return draw.choice((list, tuple))(mixed(draw, item) for item in value)
    return value


def lists_for_tuples(args, change):
    """The arguments with lists in the place of tuples; thing alone stays as it is."""
    return {name: value if name == "thing" else change(value) for name, value in args.items()}


def all_kinds(value):
    """The classes of a value and of all that it holds."""
    found = {type(value)}
    if isinstance(value, (list, tuple)):
        found = found.union(*[all_kinds(item) for item in value])
    return found


@functools.lru_cache(maxsize=None)
def told_once():
    """Triples: a function, its arguments by their names, and what the call returned or raised."""
    return [(call, args, outcome(call, *args.values())) for call, args in CALLS]


class Calls(unittest.TestCase):
    def each(self):
        yield from told_once()

    def test_each_function_is_called_and_most_of_them_return(self):
        returned = {call.__name__ for call, _, told in self.each() if told.startswith("returns ")}
        self.assertEqual(returned, {name for names in FUNCTIONS.values() for name in names})

    def test_no_other_errors(self):
        for call, args, told in self.each():
            self.assertTrue(told.startswith(("returns ", "raises orderrings.errors.")), (call, args, told))

    def test_called_twice(self):
        for call, args, told in self.each():
            self.assertEqual(outcome(call, *args.values()), told, (call, args))

    def test_by_names(self):
        for call, args, told in self.each():
            self.assertEqual(outcome(call, **args), told, (call, args))
            turned = dict(reversed(list(args.items())))
            self.assertEqual(outcome(call, **turned), told, (call, args))

    def test_lists_for_tuples(self):
        for call, args, told in self.each():
            lists = lists_for_tuples(args, as_lists)
            self.assertEqual(outcome(call, *lists.values()), told, (call, args))
            self.assertEqual(outcome(call, **lists), told, (call, args))

    def test_lists_for_tuples_at_any_depth(self):
        draw = random.Random(54)
        for call, args, told in self.each():
            for _ in range(4):
                lists = lists_for_tuples(args, lambda value: mixed(draw, value))
                self.assertEqual(outcome(call, *lists.values()), told, (call, lists))

    def test_arguments_stay_as_they_were(self):
        for call, args, _ in self.each():
            lists = lists_for_tuples(args, as_lists)
            kept = copy.deepcopy(lists)
            outcome(call, *lists.values())
            self.assertTrue(lists == kept, call)
            # 1 equals True, too; of a thing not all numbers have a repr.
            for name in lists:
                if name != "thing":
                    self.assertEqual(repr(lists[name]), repr(kept[name]))

    def test_results_share_nothing_with_arguments(self):
        # Only tuples are inside of results: so a list that was handed in cannot be.
        for call, args, told in self.each():
            lists = lists_for_tuples(args, as_lists)
            if told.startswith("returns "):
                result = call(*lists.values())
                if call in LISTING:
                    self.assertIs(type(result), list)
                    result = tuple(result)
                self.assertLessEqual(all_kinds(result), {tuple, str, int, bool, type(None)}, call)

    def test_returned_lists_are_new(self):
        run = (("p", (("a", 1), ("b", 1))), ("q", (("b", 1), ("c", 1))), ("r", (("c", 1), ("a", 1))))
        for call, values, told in (
            (webs.rounds, RING, [("a", "p", "b", "q", "c", "r")]),
            (judged.short_rings, run, [(("a", 1), ("b", 1), ("c", 1))]),
            (trees.best_trees, RING[:2], [(("p", "q"), ("p", "r"))]),
            (some.quarrels, RING, [("p", "q", "r")]),
            (some.greatest_agreeing, RING, [("p", "q"), ("p", "r"), ("q", "r")]),
        ):
            for value in (values, as_lists(values)):
                first = call(value)
                first.append("x")
                second = call(value)
                self.assertEqual(second, told)
                second.clear()
                self.assertEqual(call(value), told)
        for value in (run, as_lists(run)):
            kept = asked.classes_kept(RING, value)
            kept.append("x")
            self.assertEqual(len(asked.classes_kept(RING, value)), 4)
        calm = judged.short_rings(run[:2])
        calm.append("x")
        self.assertEqual(judged.short_rings(run[:2]), [])
        calm = some.quarrels(RING[:2])
        calm.append("x")
        self.assertEqual(some.quarrels(RING[:2]), [])

    def test_each_error_is_raised(self):
        raised = {told.split()[1].rpartition(".")[2] for _, _, told in self.each() if told.startswith("raises ")}
        self.assertEqual(raised, {
            "NoGroup", "NoPerson", "NoNumber", "NoTerm", "Known", "CanNot", "Unfit", "BadText", "BadLine",
        })


if __name__ == "__main__":
    unittest.main()
