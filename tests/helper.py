"""What several test files need: things of every kind, webs, and refusals looked at closely."""

import copy
import unittest
from itertools import combinations

from onceroad import errors
from onceroad.plays import Play
from onceroad.webs import Web

FIELDS = {
    "NoName": "found", "Twice": "name", "NoPlace": "found", "NoTie": "found", "TooMany": "many",
    "NoText": "at", "NoPairs": "found", "NoRow": "found", "Odd": "ring", "NoMove": "found",
    "NoBack": None, "NoBar": "found", "NoPlayer": "found", "NoNumbers": "found", "NoLine": "found",
}

FOURTEEN = list("abcdefghijklmn")


def things():
    """Things of every kind that may be handed in as any thing, a new list of them each time."""
    return [
        0, 1, -1, 7, 10 ** 39, -(10 ** 39), True, False, None,
        "", " ", "A", "Ab", "a ", " a", "a\n", "a1", "a-b", "zzzzzzz", "~", ">", "a > b", "x" * 2000, "\n" * 9,
        len, lambda: None, things, Web([], []), Web(["a", "b"], [("a", "b")]),
        Play(Web(["a"], []), "a"), errors.NoBack(), errors.NoPlace("a"), errors.OnceError("a"),
        [], (), {}, [[]], [()], ([],), [{}], ["a", ["b"]], [["a", "b"]], ("a", ["b"]), ["q", "r"], ("q", "r"),
        [("a",)], [("a", "b", "c")], [("q", "r")], [("a", 1)], [(True, "b")], [(["a"], "b")], [({}, {})], [None],
        {"a": "b"}, {1: 2}, {("a", "b"): [1]}, [1, "a", (2, [3, (4, [5])])], [0] * 1999, [("q", "r")] * 600,
    ]


def other_things(kinds):
    """Those of these things that are of none of these kinds."""
    return [thing for thing in things() if not isinstance(thing, kinds)]


def line_web(names):
    return Web(list(names), [(one, other) for one, other in zip(names, names[1:])])


def ring_web(names):
    return Web(list(names), list(zip(names, list(names[1:]) + [names[0]])))


def full_ties(names, many):
    """So many ties between these names, in order."""
    return list(combinations(names, 2))[:many]


def all_webs(names):
    """All webs with these places in this order."""
    ties = list(combinations(names, 2))
    for bits in range(1 << len(ties)):
        yield Web(list(names), [tie for at, tie in enumerate(ties) if bits >> at & 1])


def all_pairs(web):
    """All pairs of a web, by trying all its ties."""
    found = [[]]
    for tie in web.ties():
        found += [pairs + [tie] for pairs in found if not any(set(tie) & set(pair) for pair in pairs)]
    return found


class Case(unittest.TestCase):
    def caught(self, kind, call, args):
        with self.assertRaises(errors.OnceError) as caught:
            call(*args)
        self.assertEqual(type(caught.exception).__name__, kind.__name__, (call, args))
        return caught.exception

    def refuses(self, kind, thing, call, *args):
        """The call is refused with this class, and its field is this very thing."""
        error = self.caught(kind, call, args)
        self.assertIs(getattr(error, FIELDS[kind.__name__]), thing)

    def refuses_with(self, kind, value, call, *args):
        """The call is refused with this class, and its field is like this value, of its kind."""
        error = self.caught(kind, call, args)
        found = getattr(error, FIELDS[kind.__name__])
        self.assertEqual(found, value)
        self.assertIs(type(found), type(value))

    def is_true(self, told):
        self.assertIs(told, True)

    def is_false(self, told):
        self.assertIs(told, False)

    def keeps(self, call, *args):
        """The call, refused or not, leaves its arguments as they are; what it tells is told."""
        before = copy.deepcopy([arg for arg in args if isinstance(arg, (list, tuple, dict))])
        try:
            told = call(*args)
        except errors.OnceError:
            told = None
        self.assertEqual([arg for arg in args if isinstance(arg, (list, tuple, dict))], before)
        return told
