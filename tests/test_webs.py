"""[2], [5], [11], [12], [13]: webs, what they tell, and webs made of them."""

import unittest

from helper import FOURTEEN, Case, full_ties, line_web, other_things, ring_web, things
from onceroad.errors import NoName, NoPlace, NoTie, TooMany, Twice
from onceroad.webs import Web

FIFTEEN = FOURTEEN + ["o"]


class Made(Case):
    def test_of_lists_and_of_tuples(self):
        told = (("c", "a", "b"), (("c", "a"), ("a", "b")))
        self.assertEqual(Web(["c", "a", "b"], [("b", "a"), ("a", "c")]).told(), told)
        self.assertEqual(Web(("c", "a", "b"), (("a", "b"), ("c", "a"))).told(), told)

    def test_without_places(self):
        for names in ([], ()):
            web = Web(names, ())
            self.assertEqual(web.told(), ((), ()))
            self.assertEqual((web.places(), web.ties(), web.pieces(), web.how_many()), ([], [], [], 0))

    def test_fourteen_places_and_thirty_ties(self):
        ties = full_ties(FOURTEEN, 30)
        web = Web(FOURTEEN, [(other, one) for one, other in reversed(ties)])
        self.assertEqual(web.how_many(), 14)
        self.assertEqual(web.ties(), ties)

    def test_names_of_one_and_of_six_letters(self):
        self.assertEqual(Web(["abcdef", "a"], []).places(), ["abcdef", "a"])
        self.refuses_with(NoName, "abcdefg", Web, ["a", "abcdefg"], [])

    def test_names_that_are_no_list_and_no_tuple(self):
        for thing in other_things((list, tuple)):
            self.refuses(NoName, thing, Web, thing, None)
        names = {"a": 1}
        self.refuses(NoName, names, Web, names, [])

    def test_too_many_names_ahead_of_what_they_are(self):
        self.refuses_with(TooMany, 15, Web, FIFTEEN, None)
        self.refuses_with(TooMany, 15, Web, tuple([None] * 15), [])
        self.refuses_with(TooMany, 16, Web, ["a"] * 16, [])
        self.refuses_with(TooMany, 1999, Web, [0] * 1999, [])

    def test_name_by_name(self):
        for thing in things():
            self.refuses(NoName, thing, Web, ["a", thing, "a", 1], None)
            self.refuses(NoName, thing, Web, (thing,), [])
        self.refuses_with(Twice, "a", Web, ["a", "b", "a", 1], None)
        self.refuses_with(Twice, "b", Web, ("a", "b", "b", "a"), [("a", "a")])
        self.refuses_with(NoName, 1, Web, ["a", 1, "a"], [])

    def test_ties_that_are_no_list_and_no_tuple(self):
        for thing in other_things((list, tuple)):
            self.refuses(NoTie, thing, Web, ["a", "b"], thing)

    def test_too_many_ties_ahead_of_what_they_are(self):
        self.refuses_with(TooMany, 31, Web, FOURTEEN, full_ties(FOURTEEN, 31))
        self.refuses_with(TooMany, 31, Web, FOURTEEN, tuple([None] * 31))
        self.refuses_with(TooMany, 40, Web, [], [("a", "a")] * 40)

    def test_tie_by_tie(self):
        for thing in things():
            self.refuses(NoTie, thing, Web, ["a", "b"], [("b", "a"), thing, ("a", "a")])
            for tie in ((thing, "a"), ("a", thing), (thing, thing)):
                self.refuses(NoTie, tie, Web, ["a", "b"], (tie, 5))

    def test_ties_of_other_forms(self):
        for tie in (["a", "b"], ("a",), ("a", "b", "c"), (), ("a", "a"), ("a", "q"), ("q", "a"), "ab", {"a": "b"}):
            self.refuses(NoTie, tie, Web, ["a", "b", "c"], [("b", "c"), tie])

    def test_a_tie_that_is_there_either_way_round(self):
        again = ("a", "b")
        self.refuses(NoTie, again, Web, ["a", "b", "c"], [("a", "b"), ("c", "b"), again, 7])
        turned = ("b", "a")
        self.refuses(NoTie, turned, Web, ["a", "b", "c"], [("a", "b"), turned])

    def test_true_is_no_place(self):
        tie = (True, "a")
        self.refuses(NoTie, tie, Web, ["a", "b"], [tie])


class Told(Case):
    def setUp(self):
        self.web = Web(["d", "b", "a", "e", "c"], [("a", "d"), ("c", "b"), ("d", "c"), ("b", "d")])

    def test_places_and_ties(self):
        self.assertEqual(self.web.places(), ["d", "b", "a", "e", "c"])
        self.assertEqual(self.web.ties(), [("d", "b"), ("d", "a"), ("d", "c"), ("b", "c")])
        self.assertEqual(self.web.how_many(), 5)
        self.assertIs(type(self.web.how_many()), int)

    def test_numbers(self):
        self.assertEqual([self.web.number_of(name) for name in "dbaec"], [0, 1, 2, 3, 4])

    def test_beside(self):
        self.assertEqual(self.web.beside("d"), ["b", "a", "c"])
        self.assertEqual(self.web.beside("b"), ["d", "c"])
        self.assertEqual(self.web.beside("e"), [])

    def test_bits_beside(self):
        self.assertEqual([self.web.bits_beside(name) for name in "dbaec"], [0b10110, 0b10001, 1, 0, 0b11])
        web = line_web(FOURTEEN)
        self.assertEqual(web.bits_beside("m"), 2 ** 11 + 2 ** 13)

    def test_tied(self):
        self.is_true(self.web.tied("d", "a"))
        self.is_true(self.web.tied("a", "d"))
        self.is_false(self.web.tied("a", "b"))
        for name in "dbaec":
            self.is_false(self.web.tied(name, name))

    def test_pieces(self):
        self.assertEqual(self.web.pieces(), [["d", "b", "a", "c"], ["e"]])
        web = Web(list("fedcba"), [("a", "c"), ("c", "f"), ("e", "b")])
        self.assertEqual(web.pieces(), [["f", "c", "a"], ["e", "b"], ["d"]])
        turned = Web(list("agbfcedhijklmn"), list(zip("abcdefg", "bcdefgn")))
        self.assertEqual(turned.pieces()[0], list("agbfcedn"))
        self.assertEqual(turned.pieces()[1:], [["h"], ["i"], ["j"], ["k"], ["l"], ["m"]])

    def test_told(self):
        told = (("d", "b", "a", "e", "c"), (("d", "b"), ("d", "a"), ("d", "c"), ("b", "c")))
        self.assertEqual(self.web.told(), told)
        self.assertIs(type(self.web.told()[0]), tuple)
        self.assertIs(type(self.web.told()[1]), tuple)
        self.assertEqual(len({self.web.told(): True}), 1)

    def test_what_is_no_place(self):
        for thing in things() + ["q", ["a"], ("a",), {"a": 1}]:
            for method in (self.web.number_of, self.web.beside, self.web.bits_beside):
                self.refuses(NoPlace, thing, method, thing)
            self.refuses(NoPlace, thing, self.web.tied, thing, "a")
            self.refuses(NoPlace, thing, self.web.tied, thing, ["q"])
            self.refuses(NoPlace, thing, self.web.tied, "a", thing)


class Without(Case):
    def setUp(self):
        self.web = Web(list("dbaec"), [("a", "d"), ("c", "b"), ("d", "c"), ("b", "d")])

    def test_some_places(self):
        left = (("d", "a", "c"), (("d", "a"), ("d", "c")))
        self.assertEqual(self.web.without(["e", "b"]).told(), left)
        self.assertEqual(self.web.without(("b", "e", "b", "b")).told(), left)

    def test_none_and_all(self):
        self.assertEqual(self.web.without([]).told(), self.web.told())
        self.assertEqual(self.web.without(()).told(), self.web.told())
        self.assertEqual(self.web.without(list("abcde")).told(), ((), ()))

    def test_refused(self):
        for thing in other_things((list, tuple)) + ["a", {"a": 1}]:
            self.refuses(NoPlace, thing, self.web.without, thing)
        for thing in things() + ["q", ["a"]]:
            self.refuses(NoPlace, thing, self.web.without, ["a", thing, "r", None])
            self.refuses(NoPlace, thing, self.web.without, (thing,))
        self.assertEqual(self.web.without(["a"]).places(), list("dbec"))


class WithPlace(Case):
    def test_a_place_more(self):
        web = Web(["b", "a"], [("a", "b")]).with_place("abcdef")
        self.assertEqual(web.told(), (("b", "a", "abcdef"), (("b", "a"),)))
        self.assertEqual(Web([], []).with_place("a").told(), (("a",), ()))
        self.assertEqual(Web(FOURTEEN[:13], full_ties(FOURTEEN[:13], 30)).with_place("n").places(), FOURTEEN)

    def test_refused(self):
        web = line_web(FOURTEEN)
        for thing in things() + [["a"]]:
            self.refuses(NoName, thing, web.with_place, thing)
            self.refuses(NoName, thing, Web([], []).with_place, thing)
        self.refuses_with(Twice, "n", web.with_place, "n")
        self.refuses_with(Twice, "a", line_web("abc").with_place, "a")
        self.refuses_with(TooMany, 15, web.with_place, "o")


class WithTie(Case):
    def test_a_tie_more(self):
        web = line_web("abcd")
        self.assertEqual(web.with_tie("d", "a").ties(), [("a", "b"), ("a", "d"), ("b", "c"), ("c", "d")])
        self.assertEqual(web.with_tie("a", "c").places(), list("abcd"))
        self.assertEqual(web.ties(), [("a", "b"), ("b", "c"), ("c", "d")])
        web = Web(FOURTEEN, full_ties(FOURTEEN, 29)).with_tie("n", "m")
        self.assertEqual(len(web.ties()), 30)

    def test_without_a_tie(self):
        web = ring_web("abc")
        self.assertEqual(web.without_tie("a", "b").ties(), [("a", "c"), ("b", "c")])
        self.assertEqual(web.without_tie("c", "a").ties(), [("a", "b"), ("b", "c")])
        self.assertEqual(web.without_tie("c", "a").places(), list("abc"))
        self.assertEqual(len(web.ties()), 3)

    def test_no_place(self):
        web = Web(FOURTEEN, full_ties(FOURTEEN, 30))
        for method in (web.with_tie, web.without_tie):
            for thing in things() + ["q", ["a"]]:
                self.refuses(NoPlace, thing, method, thing, "a")
                self.refuses(NoPlace, thing, method, thing, 1)
                self.refuses(NoPlace, thing, method, "a", thing)

    def test_no_tie(self):
        web = line_web("abc")
        for one, other in (("a", "a"), ("a", "b"), ("b", "a")):
            self.refuses_with(NoTie, (one, other), web.with_tie, one, other)
        for one, other in (("a", "a"), ("a", "c"), ("c", "a")):
            self.refuses_with(NoTie, (one, other), web.without_tie, one, other)

    def test_too_many_comes_last(self):
        web = Web(FOURTEEN, full_ties(FOURTEEN, 30))
        self.refuses_with(TooMany, 31, web.with_tie, "n", "m")
        self.refuses_with(NoTie, ("b", "a"), web.with_tie, "b", "a")
        self.refuses_with(NoTie, ("n", "n"), web.with_tie, "n", "n")
        self.refuses_with(NoPlace, "q", web.with_tie, "n", "q")
        self.assertEqual(len(web.without_tie("a", "b").ties()), 29)
        self.refuses_with(NoTie, ("n", "m"), web.without_tie, "n", "m")


class Copies(Case):
    def test_what_is_handed_in_is_kept_as_a_copy(self):
        names = ["a", "b", "c"]
        ties = [("c", "b"), ("b", "a")]
        web = Web(names, ties)
        told = web.told()
        self.assertEqual((names, ties), (["a", "b", "c"], [("c", "b"), ("b", "a")]))
        names[0] = "q"
        names.append("r")
        ties.clear()
        self.assertEqual(web.told(), told)

    def test_what_is_handed_in_stays(self):
        web = line_web("abc")
        for thing in things():
            self.keeps(Web, thing, thing)
            self.keeps(Web, ["a", "b"], thing)
            self.keeps(web.without, thing)
            self.keeps(web.with_place, thing)
            self.keeps(web.with_tie, "a", thing)
        self.keeps(web.without, ["a", "a", "b"])

    def test_each_told_list_is_a_new_one(self):
        web = line_web("abc")
        told = web.told()
        for method, args in ((web.places, ()), (web.ties, ()), (web.beside, ("b",)), (web.pieces, ())):
            before = method(*args)
            spoiled = method(*args)
            self.assertIsNot(spoiled, before)
            spoiled.clear()
            self.assertEqual(method(*args), before)
        web.pieces()[0].append("q")
        self.assertEqual(web.pieces(), [["a", "b", "c"]])
        self.assertEqual(web.told(), told)

    def test_a_web_never_changes(self):
        web = line_web("abc")
        told = web.told()
        web.without(["a"])
        web.with_place("d")
        web.with_tie("a", "c")
        web.without_tie("a", "b")
        self.assertEqual(web.told(), told)
        self.assertEqual(web.beside("b"), ["a", "c"])

    def test_webs_made_of_one_stand_alone(self):
        for made in (line_web("abc").without([]), line_web("ab").with_place("c")):
            made.places().clear()
            self.assertEqual(made.places(), ["a", "b", "c"])


if __name__ == "__main__":
    unittest.main()
