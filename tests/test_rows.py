"""[5], [31], [32]: rows, rows that are turned, and what lies between two pairs."""

import unittest
from itertools import permutations

from helper import FOURTEEN, Case, all_pairs, all_webs, full_ties, line_web, ring_web, things
from onceroad.errors import NoPairs, NoRow
from onceroad.pairs import are_pairs, singles, told_pairs
from onceroad.rows import between, can_turn, is_row, turned
from onceroad.webs import Web

WRONG_PAIRS = [("a", "b"), (("a", "b"),), [("a", "b"), ("b", "c")], [("a", "c")], [["a", "b"]], None, True, "ab", {}]


def is_a_row(web, pairs, names):
    """What the document says of a row, word for word."""
    ties = [frozenset(tie) for tie in zip(names, names[1:])]
    paired = [tie in [frozenset(pair) for pair in pairs] for tie in ties]
    tied = all(web.tied(one, other) for one, other in zip(names, names[1:]))
    return tied and all(paired[at] + paired[at + 1] == 1 for at in range(len(paired) - 1))


def may_be_turned(web, pairs, names):
    ends = ((names[0], names[1]), (names[-1], names[-2]))
    single = singles(web, pairs)
    return all(one in single or (one, other) in pairs or (other, one) in pairs for one, other in ends)


class IsRow(Case):
    def setUp(self):
        self.web = line_web("abcdef")
        self.pairs = [("c", "b"), ("d", "e")]

    def test_rows(self):
        for names in ("ab", "ba", "bc", "abc", "cba", "abcd", "bcd", "abcdef", "fedcba", "bcde", "cd"):
            self.is_true(is_row(self.web, self.pairs, list(names)))

    def test_no_rows(self):
        for names in ("a", "ac", "aba", "abb", "abq", "qr", "abcb", "aa", "abce", "bdc"):
            self.is_false(is_row(self.web, self.pairs, list(names)))
            self.is_false(can_turn(self.web, self.pairs, list(names)))

    def test_ties_by_turns(self):
        self.is_false(is_row(self.web, [], list("abc")))
        self.is_false(is_row(self.web, [("a", "b")], list("abcd")))
        self.is_true(is_row(self.web, [("a", "b")], list("abc")))
        self.is_true(is_row(self.web, [], list("ab")))

    def test_a_row_is_a_list(self):
        self.is_false(is_row(self.web, self.pairs, tuple("abc")))
        self.is_false(is_row(self.web, self.pairs, "abc"))
        self.is_false(is_row(self.web, self.pairs, {"a": 1, "b": 2}))

    def test_a_ring_is_no_row(self):
        self.is_false(is_row(ring_web("abcd"), [("a", "b"), ("c", "d")], list("abcda")))

    def test_of_any_thing(self):
        web = line_web("ab")
        for thing in things():
            self.is_false(is_row(web, [], thing))
            self.is_false(can_turn(web, [], thing))
            self.is_false(is_row(web, [("b", "a")], ["a", thing]))
            self.is_false(can_turn(web, [("b", "a")], [thing, "b"]))
            self.is_false(is_row(Web([], []), [], thing))

    def test_against_trying_all(self):
        for web in all_webs("bdac"):
            for pairs in all_pairs(web):
                for many in (2, 3, 4):
                    for names in permutations("abcd", many):
                        row = is_a_row(web, pairs, names)
                        self.assertIs(is_row(web, pairs, list(names)), row)
                        may = row and may_be_turned(web, pairs, names)
                        self.assertIs(can_turn(web, pairs, list(names)), may)

    def test_the_greatest_webs(self):
        pairs = list(zip(FOURTEEN[1:13:2], FOURTEEN[2:13:2]))
        self.is_true(can_turn(line_web(FOURTEEN), pairs, FOURTEEN))
        web = Web(FOURTEEN, full_ties(FOURTEEN, 30))
        self.is_true(is_row(web, [("a", "b")], ["n", "a", "b", "c"]))
        self.is_false(is_row(web, [("a", "b")], ["n", "a", "c", "b"]))


class Turned(Case):
    def turns(self, web, pairs, row, told):
        before = told_pairs(web, pairs)
        self.is_true(can_turn(web, pairs, row))
        self.assertEqual(turned(web, pairs, row), told)
        self.assertEqual(turned(web, told, row), before)

    def test_one_pair_more_and_one_fewer(self):
        web = line_web("abcdef")
        self.turns(web, [], ["b", "a"], [("a", "b")])
        self.turns(web, [("a", "b")], ["b", "a"], [])
        pairs = [("e", "d"), ("c", "b")]
        self.turns(web, pairs, list("fedcba"), [("a", "b"), ("c", "d"), ("e", "f")])

    def test_as_many(self):
        web = line_web("abcde")
        self.turns(web, [("b", "c")], list("abc"), [("a", "b")])
        self.turns(web, [("b", "c")], list("dcb"), [("c", "d")])
        self.turns(web, [("d", "e"), ("c", "b")], list("abc"), [("a", "b"), ("d", "e")])

    def test_rows_that_cannot_be_turned(self):
        web = line_web("abcdef")
        for pairs, names in (([("b", "c")], "ab"), ([("b", "c")], "dc"), ([("b", "c"), ("d", "e")], "bcd"),
                             ([("b", "c"), ("d", "e")], "cd"), ([("b", "c"), ("d", "e")], "abcd")):
            row = list(names)
            self.is_true(is_row(web, pairs, row))
            for one in (row, row[::-1]):
                self.is_false(can_turn(web, pairs, one))
                self.refuses(NoRow, one, turned, web, pairs, one)

    def test_what_comes_of_pairs_is_pairs(self):
        for web in all_webs("bdac"):
            for pairs in all_pairs(web):
                for many in (2, 3, 4):
                    for names in permutations("abcd", many):
                        if can_turn(web, pairs, list(names)):
                            self.looks_at(web, pairs, list(names))

    def looks_at(self, web, pairs, row):
        told = turned(web, pairs, row)
        self.is_true(are_pairs(web, told))
        self.assertEqual(told, told_pairs(web, told))
        changed = {frozenset(tie) for tie in zip(row, row[1:])}
        self.assertEqual({frozenset(tie) for tie in told} ^ {frozenset(tie) for tie in pairs}, changed)
        single = [place in singles(web, pairs) for place in (row[0], row[-1])]
        self.assertEqual(len(told) - len(pairs), sum(single) - 1)

    def test_no_row(self):
        web = line_web("abcd")
        for thing in things() + [["a", "c"], ("a", "b"), "ab", ["a"], ["a", "b", "c"]]:
            self.refuses(NoRow, thing, turned, web, [], thing)

    def test_no_pairs_ahead_of_the_row(self):
        web = line_web("abcd")
        for thing in WRONG_PAIRS + [thing for thing in things() if thing != []]:
            for row in (["a", "b"], ["q"], None, ("a", "b")):
                self.refuses(NoPairs, thing, is_row, web, thing, row)
                self.refuses(NoPairs, thing, can_turn, web, thing, row)
                self.refuses(NoPairs, thing, turned, web, thing, row)


class Between(Case):
    def test_pairs_that_are_alike(self):
        web = line_web("abcd")
        self.assertEqual(between(web, [("a", "b"), ("c", "d")], [("d", "c"), ("b", "a")]), [])
        self.assertEqual(between(web, [], []), [])
        self.assertEqual(between(Web([], []), [], []), [])

    def test_rows(self):
        web = line_web("abcdef")
        all_three = [("a", "b"), ("c", "d"), ("e", "f")]
        self.assertEqual(between(web, [], all_three), [("row", ["a", "b"]), ("row", ["c", "d"]), ("row", ["e", "f"])])
        self.assertEqual(between(web, [("e", "d"), ("c", "b")], all_three), [("row", list("abcdef"))])
        self.assertEqual(between(web, [("b", "c")], [("d", "c")]), [("row", ["b", "c", "d"])])

    def test_a_row_goes_from_the_end_that_is_ahead(self):
        web = Web(list("cadb"), list(zip("abc", "bcd")))
        self.assertEqual(between(web, [("b", "c")], [("a", "b"), ("c", "d")]), [("row", list("abcd"))])
        web = Web(list("cbda"), list(zip("abc", "bcd")))
        self.assertEqual(between(web, [("b", "c")], [("a", "b"), ("c", "d")]), [("row", list("dcba"))])

    def test_rings(self):
        web = ring_web("abcd")
        one = [("a", "b"), ("c", "d")]
        other = [("b", "c"), ("a", "d")]
        self.assertEqual(between(web, one, other), [("ring", list("abcd"))])
        self.assertEqual(between(web, other, one), [("ring", list("abcd"))])
        web = Web(list("cdab"), list(zip("abcd", "bcda")))
        self.assertEqual(between(web, one, other), [("ring", list("cdab"))])
        web = Web(list("cbda"), list(zip("abcd", "bcda")))
        self.assertEqual(between(web, one, other), [("ring", list("cbad"))])

    def test_a_ring_of_fourteen(self):
        web = ring_web(FOURTEEN)
        one = list(zip(FOURTEEN[::2], FOURTEEN[1::2]))
        other = list(zip(FOURTEEN[1:13:2], FOURTEEN[2::2])) + [("a", "n")]
        self.assertEqual(between(web, one, other), [("ring", FOURTEEN)])
        self.assertEqual(between(web.without_tie("a", "n"), one, other[:-1]), [("row", FOURTEEN)])

    def test_the_list_goes_by_first_names(self):
        # The row has the first place of all within it, but begins behind the ring.
        web = Web(list("xabcdyzpq"), list(zip("abcd", "bcda")) + [("y", "x"), ("x", "z"), ("q", "p")])
        one = [("a", "b"), ("c", "d"), ("y", "x")]
        other = [("b", "c"), ("d", "a"), ("x", "z"), ("p", "q")]
        told = [("ring", list("abcd")), ("row", ["y", "x", "z"]), ("row", ["p", "q"])]
        self.assertEqual(between(web, one, other), told)
        self.assertEqual(between(web, other, one), told)

    def test_no_pairs(self):
        web = line_web("abcd")
        for thing in WRONG_PAIRS + [thing for thing in things() if thing != []]:
            self.refuses(NoPairs, thing, between, web, thing, [])
            self.refuses(NoPairs, thing, between, web, thing, None)
            self.refuses(NoPairs, thing, between, web, [("a", "b")], thing)


class BetweenAll(Case):
    def test_all_that_is_told_of_rows_and_rings(self):
        webs = list(all_webs("bdac")) + [Web(list("cfaebd"), full_ties("abcdef", 15)), ring_web("hgbdfcea")]
        for web in webs:
            found = all_pairs(web)
            for one in found:
                for other in found:
                    self.looks_at(web, one, other)

    def looks_at(self, web, one, other):
        parts = between(web, one, other)
        unlike = {frozenset(tie) for tie in one} ^ {frozenset(tie) for tie in other}
        told = []
        for part in parts:
            self.assertIs(type(part), tuple)
            told += self.ties_of(web, part)
            if part[0] == "row":
                self.is_true(can_turn(web, one, part[1]))
                self.is_true(can_turn(web, other, part[1]))
        self.assertEqual(len(told), len(unlike))
        self.assertEqual(set(told), unlike)
        firsts = [web.number_of(part[1][0]) for part in parts]
        self.assertEqual(firsts, sorted(set(firsts)))
        rows = [names for word, names in parts if word == "row"]
        self.assertEqual(len(other) - len(one), sum(len(turned(web, one, row)) - len(one) for row in rows))

    def ties_of(self, web, part):
        word, names = part
        numbers = [web.number_of(name) for name in names]
        self.assertEqual(len(names), len(set(names)))
        if word == "row":
            self.assertLess(numbers[0], numbers[-1])
            return [frozenset(tie) for tie in zip(names, names[1:])]
        self.assertEqual((word, len(names) % 2), ("ring", 0))
        self.assertEqual(numbers[0], min(numbers))
        self.assertLess(numbers[1], numbers[-1])
        return [frozenset(tie) for tie in zip(names, names[1:] + names[:1])]

    def test_greatest_where_no_row_leads_between_singles(self):
        for web in all_webs("bdac"):
            found = all_pairs(web)
            most = max(len(pairs) for pairs in found)
            for pairs in found:
                single = singles(web, pairs)
                rows = [row for many in (2, 3, 4) for row in permutations("abcd", many)
                        if row[0] in single and row[-1] in single and can_turn(web, pairs, list(row))]
                self.assertEqual(len(pairs) == most, rows == [])


class Copies(Case):
    def test_what_is_handed_in_stays(self):
        web = line_web("abcd")
        for thing in things() + [[("d", "c"), ("b", "a")], ["a", "b"], ["d", "c", "b", "a"]]:
            for call in (is_row, can_turn, turned, between):
                self.keeps(call, web, thing, thing)
                self.keeps(call, web, [("c", "b")], thing)
                self.keeps(call, web, thing, [("b", "a")])

    def test_each_told_list_is_a_new_one(self):
        web = line_web("abcd")
        pairs = [("c", "b")]
        turned(web, pairs, list("abcd")).clear()
        self.assertEqual(turned(web, pairs, list("abcd")), [("a", "b"), ("c", "d")])
        told = between(web, pairs, [])
        told[0][1].append("q")
        told.clear()
        self.assertEqual(between(web, pairs, []), [("row", ["b", "c"])])
        self.assertEqual(pairs, [("c", "b")])


if __name__ == "__main__":
    unittest.main()
