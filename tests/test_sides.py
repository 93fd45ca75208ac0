"""[5], [33], [34]: webs of two sides, odd rings, and pairs and covers that are as many."""

import unittest
from itertools import combinations, product

from helper import FOURTEEN, Case, all_pairs, all_webs, copied, full_ties, line_web, mixed, mixed_webs, most_pairs, ring_web
from helper import things, told_webs
from onceroad.errors import Odd
from onceroad.pairs import are_pairs, told_pairs
from onceroad.sides import greatest_by_sides, shows_cover, sides_of
from onceroad.webs import Web


def has_two_sides(web):
    """Told by trying all ways to part the places."""
    places = web.places()
    for sides in product((0, 1), repeat=len(places)):
        of = dict(zip(places, sides))
        if all(of[one] != of[other] for one, other in web.ties()):
            return True
    return False


def two_sided_webs():
    """Webs of fourteen places with ties between two halves alone."""
    ties = list(product("abcdefg", "hijklmn"))
    return [Web(mixed(FOURTEEN, turn), mixed(ties, turn)[:many]) for turn in range(4) for many in (9, 14, 20, 30)]


def told_or_ring(call, web):
    try:
        return call(web)
    except Odd as refusal:
        return refusal.ring


class Looks(Case):
    def looks_at_sides(self, web):
        told = sides_of(web)
        self.assertEqual((type(told), len(told)), (tuple, 2))
        for side in told:
            self.assertEqual(side, [place for place in web.places() if place in side])
            self.assertFalse([tie for tie in web.ties() if tie[0] in side and tie[1] in side])
        self.assertEqual(sorted(told[0] + told[1]), sorted(web.places()))
        for piece in web.pieces():
            self.assertIn(piece[0], told[0])

    def looks_at_ring(self, web, call):
        ring = self.caught(Odd, call, (web,)).ring
        self.assertIs(type(ring), list)
        self.assertEqual((len(ring) % 2, len(ring) >= 3, len(set(ring))), (1, True, len(ring)))
        for one, other in zip(ring, ring[1:] + ring[:1]):
            self.is_true(web.tied(one, other))

    def looks_at_pairs_and_cover(self, web):
        told = greatest_by_sides(web)
        self.assertEqual((type(told), len(told)), (tuple, 2))
        pairs, cover = told
        self.is_true(are_pairs(web, pairs))
        self.assertEqual(pairs, told_pairs(web, pairs))
        self.assertEqual(cover, [place for place in web.places() if place in cover])
        self.assertTrue(all(one in cover or other in cover for one, other in web.ties()))
        self.assertEqual((len(pairs), len(cover)), (most_pairs(web), most_pairs(web)))
        self.is_true(shows_cover(web, told))

    def looks_at(self, web, sides):
        if sides:
            self.looks_at_sides(web)
            self.looks_at_pairs_and_cover(web)
        else:
            self.looks_at_ring(web, sides_of)
            self.looks_at_ring(web, greatest_by_sides)


class Sides(Looks):
    def test_sides_of_some_webs(self):
        self.assertEqual(sides_of(Web([], [])), ([], []))
        self.assertEqual(sides_of(Web(["b", "a"], [])), (["b", "a"], []))
        self.assertEqual(sides_of(line_web("abcde")), (["a", "c", "e"], ["b", "d"]))
        self.assertEqual(sides_of(Web(list("dabc"), [("a", "b"), ("b", "c"), ("c", "d")])), (["d", "b"], ["a", "c"]))
        self.assertEqual(sides_of(ring_web("acbd")), (["a", "b"], ["c", "d"]))
        self.assertEqual(sides_of(line_web(FOURTEEN)), (FOURTEEN[::2], FOURTEEN[1::2]))

    def test_the_first_place_of_each_piece(self):
        web = Web(list("xbacy"), [("a", "b"), ("c", "y")])
        self.assertEqual(sides_of(web), (["x", "b", "c"], ["a", "y"]))

    def test_rings_of_three_and_of_five(self):
        for names in ("abc", "cebad", "abcdefg", FOURTEEN[:13]):
            web = ring_web(names)
            self.looks_at_ring(web, sides_of)
            ring = self.caught(Odd, sides_of, (web,)).ring
            self.assertEqual(sorted(ring), sorted(names))

    def test_several_pieces_of_which_some_have_two_sides(self):
        web = Web(list("abxyzcd"), [("a", "b"), ("x", "y"), ("y", "z"), ("z", "x"), ("c", "d")])
        self.looks_at_ring(web, sides_of)
        self.looks_at_ring(web, greatest_by_sides)
        self.assertEqual(sorted(self.caught(Odd, sides_of, (web,)).ring), ["x", "y", "z"])
        self.looks_at(web.without(["y"]), True)

    def test_the_ring_is_not_all_of_the_way_from_the_first_place(self):
        web = Web(list("abcdef"), [("a", "b"), ("b", "c"), ("c", "d"), ("d", "e"), ("e", "f"), ("f", "d")])
        self.assertEqual(sorted(self.caught(Odd, sides_of, (web,)).ring), ["d", "e", "f"])

    def test_all_small_webs(self):
        for web in list(all_webs("bdac")) + list(all_webs("cebad"))[::3]:
            self.looks_at(web, has_two_sides(web))

    def test_larger_webs(self):
        for web in mixed_webs(60, 8, 8) + mixed_webs(20, 9, 12):
            self.looks_at(web, has_two_sides(web))
        for web in two_sided_webs():
            self.looks_at(web, True)
        self.looks_at(Web(FOURTEEN, full_ties(FOURTEEN, 30)), False)
        self.looks_at(ring_web(FOURTEEN), True)


class Covers(Looks):
    def setUp(self):
        self.web = line_web("abcd")
        self.told = ([("a", "b"), ("d", "c")], ["c", "b"])

    def test_some_covers(self):
        self.assertEqual(greatest_by_sides(Web([], [])), ([], []))
        self.assertEqual(greatest_by_sides(Web(["a", "b"], [])), ([], []))
        self.assertEqual(greatest_by_sides(Web(list("abcd"), [("b", "a"), ("b", "c"), ("d", "b")]))[1], ["b"])
        for web in (self.web, ring_web("abcdef"), line_web("abcde")):
            self.looks_at_pairs_and_cover(web)

    def test_what_is_one(self):
        self.is_true(shows_cover(self.web, self.told))
        self.is_true(shows_cover(self.web, ([("d", "c"), ("b", "a")], ["b", "d"])))
        self.is_true(shows_cover(Web([], []), ([], [])))
        self.is_true(shows_cover(Web(["a"], []), ([], [])))

    def test_one_thing_put_otherwise(self):
        pairs, cover = self.told
        for thing in ([pairs, cover], (pairs,), (pairs, cover, []), (cover, pairs), (tuple(pairs), cover), (pairs, ()),
                      (pairs, tuple(cover)), (pairs, "cb"), (pairs, {"c": 1, "b": 1}), (pairs, ["c", "c"]),
                      (pairs, ["c", "q"]), (pairs, ["a", "d"]), (pairs, ["c"]), (pairs, ["c", "b", "a"]),
                      (pairs[:1], cover), ([], cover), ([("a", "c"), ("b", "d")], cover), (pairs + pairs, cover),
                      ([("b", "c")], ["b"]), ([["a", "b"], ["d", "c"]], cover), (pairs, ["c", ["b"]]), None, ()):
            self.is_false(shows_cover(self.web, thing))

    def test_of_any_thing(self):
        for thing in things():
            self.is_false(shows_cover(self.web, thing))
            self.is_false(shows_cover(self.web, (thing, self.told[1])))
            self.is_false(shows_cover(self.web, (self.told[0], thing)))
            self.is_false(shows_cover(self.web, (self.told[0], ["c", thing])))
            self.is_false(shows_cover(self.web, (self.told[0][:1] + [thing], self.told[1])))
            self.is_false(shows_cover(Web([], []), thing))

    def test_on_webs_with_odd_rings_too(self):
        web = Web(list("abcxyz"), list(zip("abcabc", "bcaxyz")))
        self.looks_at_ring(web, greatest_by_sides)
        self.is_true(shows_cover(web, ([("x", "a"), ("y", "b"), ("c", "z")], ["a", "c", "b"])))
        self.is_false(shows_cover(web, ([("x", "a"), ("b", "c")], ["a", "c"])))
        for many in range(4):
            for cover in combinations("abc", many):
                self.is_false(shows_cover(ring_web("abc"), ([("a", "b")], list(cover))))

    def test_pairs_are_no_more_than_a_cover_has_places(self):
        for web in all_webs("bdac"):
            for many in range(5):
                for cover in combinations("abcd", many):
                    covers = all(one in cover or other in cover for one, other in web.ties())
                    for pairs in all_pairs(web):
                        self.assertIs(shows_cover(web, (pairs, list(cover))), covers and len(pairs) == many)
                        self.assertTrue(not covers or len(pairs) <= many)


class Copies(Looks):
    def test_what_is_handed_in_stays(self):
        web = ring_web("abcd")
        for thing in things() + [([("a", "b"), ("d", "c")], ["a", "c"])]:
            self.keeps(shows_cover, web, thing)
        greatest_by_sides(web)
        self.assertEqual(web.told(), ring_web("abcd").told())

    def test_each_told_list_is_a_new_one(self):
        web = ring_web("abcd")
        sides_of(web)[0].clear()
        sides_of(web)[1].clear()
        self.assertEqual(sides_of(web), (["a", "c"], ["b", "d"]))
        before = copied(greatest_by_sides(web))
        for told in greatest_by_sides(web):
            told.clear()
        self.assertEqual(greatest_by_sides(web), before)
        ring = self.caught(Odd, sides_of, (ring_web("abc"),)).ring
        ring.clear()
        self.looks_at_ring(ring_web("abc"), sides_of)

    def test_the_same_question_has_the_same_answer(self):
        for web in told_webs():
            again = Web(web.places(), [(other, one) for one, other in reversed(web.ties())])
            self.assertEqual(told_or_ring(sides_of, web), told_or_ring(sides_of, again))
            self.assertEqual(told_or_ring(greatest_by_sides, web), told_or_ring(greatest_by_sides, again))


if __name__ == "__main__":
    unittest.main()
