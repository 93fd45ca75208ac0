"""[3], [30]: pairs of a web."""

import unittest
from itertools import combinations, permutations

from helper import FOURTEEN, Case, all_pairs, all_webs, full_ties, line_web, ring_web, things
from onceroad.errors import NoPairs, NoPlace
from onceroad.pairs import are_alike, are_pairs, partner_of, singles, told_pairs
from onceroad.webs import Web


class ArePairs(Case):
    def test_in_any_order_and_either_way_round(self):
        web = line_web("abcdef")
        for pairs in ([], [("a", "b")], [("b", "a")], [("f", "e"), ("a", "b"), ("d", "c")], [("e", "d"), ("b", "c")]):
            self.is_true(are_pairs(web, pairs))

    def test_what_is_none(self):
        web = line_web("abcd")
        ties = (("a", "c"), ("a", "a"), ("a", "q"), ("q", "r"), ("a",), ("a", "b", "c"), ("A", "b"), ["a", "b"], "ab")
        for tie in ties + ({"a": "b"}, None, (True, "b"), (["a"], "b"), ("a", {})):
            self.is_false(are_pairs(web, [tie]))
            self.is_false(are_pairs(web, [("c", "d"), tie]))

    def test_a_place_twice(self):
        web = ring_web("abcd")
        for pairs in ([("a", "b"), ("b", "c")], [("a", "b"), ("d", "a")], [("a", "b"), ("a", "b")]):
            self.is_false(are_pairs(web, pairs))
            self.is_false(are_pairs(web, [("c", "d")] + pairs))
        self.is_false(are_pairs(web, [("a", "b"), ("b", "a")]))
        self.is_false(are_pairs(web, [("a", "b"), ("c", "b")]))

    def test_a_tuple_is_none(self):
        self.is_false(are_pairs(line_web("ab"), (("a", "b"),)))
        self.is_false(are_pairs(line_web("ab"), ()))

    def test_of_any_thing(self):
        for web in (line_web("abc"), Web([], [])):
            for thing in things():
                self.assertIs(are_pairs(web, thing), isinstance(thing, list) and thing == [])

    def test_against_trying_all(self):
        for web in all_webs("bdac"):
            pairs = [sorted(one) for one in all_pairs(web)]
            for many in range(4):
                for ties in combinations(sorted(web.ties()), many):
                    self.assertIs(are_pairs(web, list(ties)), list(ties) in pairs)

    def test_webs_of_fourteen_places_and_thirty_ties(self):
        self.is_true(are_pairs(line_web(FOURTEEN), list(zip(FOURTEEN[1::2], FOURTEEN[::2]))))
        web = Web(FOURTEEN, full_ties(FOURTEEN, 30))
        self.is_false(are_pairs(web, web.ties()))
        self.is_true(are_pairs(web, [("n", "a"), ("c", "b")]))


class Told(Case):
    def setUp(self):
        self.web = Web(list("fedcba"), list(zip("abcde", "bcdef")))

    def test_rising(self):
        pairs = [("a", "b"), ("f", "e"), ("d", "c")]
        for order in permutations(pairs):
            self.assertEqual(told_pairs(self.web, list(order)), [("f", "e"), ("d", "c"), ("b", "a")])
        self.assertEqual(told_pairs(self.web, []), [])

    def test_partners(self):
        pairs = [("b", "c"), ("f", "e")]
        told = [partner_of(self.web, pairs, place) for place in "abcdef"]
        self.assertEqual(told, [None, "c", "b", None, "f", "e"])
        self.assertIsNone(partner_of(self.web, [], "a"))

    def test_singles(self):
        self.assertEqual(singles(self.web, [("b", "c"), ("f", "e")]), ["d", "a"])
        self.assertEqual(singles(self.web, []), list("fedcba"))
        self.assertEqual(singles(self.web, [("b", "a"), ("c", "d"), ("e", "f")]), [])
        self.assertEqual(singles(Web([], []), []), [])

    def test_alike(self):
        one = [("a", "b"), ("f", "e")]
        self.is_true(are_alike(self.web, one, [("e", "f"), ("a", "b")]))
        self.is_true(are_alike(self.web, one, one))
        self.is_true(are_alike(self.web, [], []))
        self.is_false(are_alike(self.web, one, [("a", "b")]))
        self.is_false(are_alike(self.web, [("a", "b")], one))
        self.is_false(are_alike(self.web, [], one))
        ring = ring_web("abcd")
        self.is_false(are_alike(ring, [("a", "b"), ("c", "d")], [("b", "c"), ("d", "a")]))

    def test_against_trying_all(self):
        for web in all_webs("bdac"):
            for pairs in all_pairs(web):
                turned = [(other, one) for one, other in reversed(pairs)]
                self.assertEqual(told_pairs(web, turned), pairs)
                self.is_true(are_alike(web, turned, pairs))
                paired = [place for pair in pairs for place in pair]
                self.assertEqual(singles(web, turned), [place for place in "bdac" if place not in paired])


class Refused(Case):
    def test_no_pairs(self):
        web = line_web("abcd")
        wrong = [thing for thing in things() if thing != []]
        for thing in wrong + [("a", "b"), (("a", "b"),), [("a", "b"), ("b", "c")], [("a", "c")]]:
            self.refuses(NoPairs, thing, told_pairs, web, thing)
            self.refuses(NoPairs, thing, singles, web, thing)
            self.refuses(NoPairs, thing, partner_of, web, thing, "a")
            self.refuses(NoPairs, thing, partner_of, web, thing, ["q"])
            self.refuses(NoPairs, thing, are_alike, web, thing, [])
            self.refuses(NoPairs, thing, are_alike, web, thing, None)
            self.refuses(NoPairs, thing, are_alike, web, [("a", "b")], thing)

    def test_no_place(self):
        for thing in things() + ["q", ["a"], ("a",)]:
            self.refuses(NoPlace, thing, partner_of, line_web("abcd"), [("a", "b")], thing)
            self.refuses(NoPlace, thing, partner_of, Web([], []), [], thing)


class Copies(Case):
    def test_what_is_handed_in_stays(self):
        web = line_web("abcd")
        for thing in things() + [[("d", "c"), ("b", "a")]]:
            self.keeps(are_pairs, web, thing)
            self.keeps(told_pairs, web, thing)
            self.keeps(singles, web, thing)
            self.keeps(partner_of, web, thing, "a")
            self.keeps(partner_of, web, [], thing)
            self.keeps(are_alike, web, [("b", "a")], thing)

    def test_each_told_list_is_a_new_one(self):
        web = line_web("abcd")
        pairs = [("a", "b")]
        told = told_pairs(web, pairs)
        self.assertIsNot(told, pairs)
        told.clear()
        singles(web, pairs).clear()
        self.assertEqual(pairs, [("a", "b")])
        self.assertEqual(told_pairs(web, pairs), [("a", "b")])
        self.assertEqual(singles(web, pairs), ["c", "d"])

    def test_what_is_told_may_be_handed_in(self):
        web = ring_web("abcd")
        told = told_pairs(web, [("d", "c"), ("b", "a")])
        self.is_true(are_pairs(web, told))
        self.assertEqual(told_pairs(web, told), told)


if __name__ == "__main__":
    unittest.main()
