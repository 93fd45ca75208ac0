"""[5], [7], [50], [51], [52], [53]: bars, their lack, and papers of greatest pairs."""

import unittest
from itertools import combinations

from helper import FOURTEEN, Case, all_pairs, all_webs, copied, full_ties, line_web, loose_by_counting, mixed, mixed_webs
from helper import most_pairs, ring_web, things, told_webs
from onceroad.bars import is_bar, lack_of, odd_pieces, paper_of, parts_of, pieces_beside, shows
from onceroad.errors import NoBar, NoPairs
from onceroad.greatest import greatest, greatest_from
from onceroad.pairs import are_pairs, singles, told_pairs
from onceroad.webs import Web

WRONG_BARS = [(), ("b",), "b", {"b": 1}, ["b", "b"], ["q"], ["b", "q"], ["b", 1], [["b"]], [("b",)], ["B"], None, 0, True]
WRONG_PAIRS = [(), (("a", "b"),), [("a", "b"), ("b", "c")], [("a", "c")], [["a", "b"]], [("a", "b"), ("b", "a")]]


def all_bars(web):
    return [list(names) for many in range(web.how_many() + 1) for names in combinations(web.places(), many)]


def star():
    """The place m, tied to a, b, c and d, of which d is tied to e."""
    return Web(list("abmcde"), [("m", "a"), ("m", "b"), ("c", "m"), ("d", "m"), ("e", "d")])


class Bars(Case):
    def test_pieces_beside(self):
        web = star()
        self.assertEqual(pieces_beside(web, ["m"]), [["a"], ["b"], ["c"], ["d", "e"]])
        self.assertEqual(odd_pieces(web, ["m"]), [["a"], ["b"], ["c"]])
        self.assertEqual(lack_of(web, ["m"]), 2)
        self.assertEqual(pieces_beside(web, ["d", "m"]), [["a"], ["b"], ["c"], ["e"]])
        self.assertEqual(pieces_beside(web, ["m", "d"]), pieces_beside(web, ["d", "m"]))
        self.assertEqual(lack_of(web, ["m", "d"]), 2)

    def test_a_bar_of_none(self):
        self.assertEqual((pieces_beside(star(), []), odd_pieces(star(), []), lack_of(star(), [])), ([list("abmcde")], [], 0))
        self.assertEqual((odd_pieces(ring_web("abc"), []), lack_of(ring_web("abc"), [])), ([list("abc")], 1))
        self.assertEqual((pieces_beside(Web([], []), []), lack_of(Web([], []), [])), ([], 0))
        self.assertEqual(lack_of(Web(list("cab"), []), []), 3)

    def test_a_lack_that_is_less_than_nought(self):
        self.assertEqual(lack_of(line_web("ab"), ["a", "b"]), -2)
        self.assertEqual(lack_of(ring_web("abcd"), list("dcb")), -2)
        self.assertEqual(lack_of(line_web(FOURTEEN), FOURTEEN), -14)
        self.assertIs(type(lack_of(line_web("ab"), [])), int)

    def test_there_are_as_many_singles_as_the_lack_at_least(self):
        for web in all_webs("bdac"):
            for bar in all_bars(web):
                self.looks_at(web, bar)
                for pairs in all_pairs(web):
                    self.assertGreaterEqual(len(singles(web, pairs)), lack_of(web, bar))
        for web in told_webs():
            for turn in range(20):
                bar = mixed(web.places(), turn)[:turn % 7]
                self.looks_at(web, bar)
                self.assertGreaterEqual(web.how_many() - 2 * most_pairs(web), lack_of(web, bar))

    def looks_at(self, web, bar):
        pieces = web.without(bar).pieces()
        odd = [piece for piece in pieces if len(piece) % 2]
        self.assertEqual((pieces_beside(web, bar), odd_pieces(web, bar)), (pieces, odd))
        self.assertEqual(lack_of(web, bar), len(odd) - len(bar))

    def test_no_bar(self):
        for thing in WRONG_BARS + [thing for thing in things() if thing != []]:
            for call in (pieces_beside, odd_pieces, lack_of):
                self.refuses(NoBar, thing, call, star(), thing)
                self.refuses(NoBar, thing, call, Web([], []), thing)


class Papers(Case):
    def test_a_paper_is_told(self):
        self.assertEqual(paper_of(Web([], [])), ([], []))
        self.assertEqual(paper_of(Web(["a"], [])), ([], []))
        self.assertEqual(paper_of(star())[1], ["m"])
        self.assertEqual(paper_of(line_web("ab")), ([("a", "b")], []))
        self.assertEqual(paper_of(line_web("cab"))[1], ["a"])

    def test_papers_by_their_own_counts(self):
        for web in told_webs() + list(all_webs("cebad"))[::3] + mixed_webs(30, 11, 12):
            paper = paper_of(web)
            self.assertEqual((type(paper), len(paper)), (tuple, 2))
            self.is_true(are_pairs(web, paper[0]))
            self.assertEqual(paper[0], told_pairs(web, paper[0]))
            self.assertEqual(len(singles(web, paper[0])), len(odd_pieces(web, paper[1])) - len(paper[1]))
            self.assertEqual(len(paper[0]), most_pairs(web))
            free = loose_by_counting(web)
            near = [place for place in web.places() if place not in free and set(web.beside(place)) & set(free)]
            self.assertEqual(paper[1], near)
            self.is_true(shows(web, paper))
            self.is_true(shows(web, (paper[0][::-1], paper[1][::-1])))

    def test_one_thing_put_otherwise(self):
        web = star()
        pairs, bar = [("m", "a"), ("e", "d")], ["m"]
        self.is_true(shows(web, (pairs, bar)))
        self.is_true(shows(web, (pairs, ["d", "m"])))
        for thing in ([pairs, bar], (pairs,), (pairs, bar, []), (bar, pairs), (tuple(pairs), bar), (pairs, tuple(bar)),
                      (pairs, "m"), (pairs, {"m": 1}), (pairs, []), (pairs, ["m", "m"]), (pairs, ["m", "a"]), (pairs, ["q"]),
                      (pairs[:1], bar), ([], bar), (pairs + [("b", "a")], bar), (pairs + pairs, bar), (pairs, ["a"]),
                      ([["m", "a"], ("e", "d")], bar), ([("m", "a"), ("e", "q")], bar), (pairs, bar + [None]), ()):
            self.is_false(shows(web, thing))

    def test_of_any_thing(self):
        web = star()
        for thing in things():
            self.is_false(shows(web, thing))
            self.is_false(shows(web, (thing, ["m"])))
            self.is_false(shows(web, ([("m", "a"), ("d", "e")], thing)))
            self.is_false(shows(web, ([("m", "a"), thing], ["m"])))
            self.is_false(shows(web, ([("m", "a"), ("d", "e")], ["m", thing])))
            self.is_false(shows(Web([], []), thing))
            self.is_false(is_bar(web, thing))
            self.is_false(is_bar(web, ["m", thing]))
            self.assertIs(is_bar(Web([], []), thing), thing == [])

    def test_all_pairs_and_bars_of_small_webs(self):
        for web in all_webs("bdac"):
            alone = 4 - 2 * most_pairs(web)
            for bar in all_bars(web):
                lack = lack_of(web, bar)
                self.assertIs(is_bar(web, bar[::-1]), lack == alone)
                for pairs in all_pairs(web):
                    self.assertIs(shows(web, (pairs, bar)), len(singles(web, pairs)) == lack)

    def test_bars_of_larger_webs(self):
        web = line_web("abcdefg")
        self.is_true(is_bar(web, ["b", "d", "f"]))
        self.is_true(is_bar(web, []))
        self.is_false(is_bar(web, ["a"]))
        self.is_false(is_bar(web, ("b", "d", "f")))
        self.is_false(is_bar(web, ["b", "d", "d"]))
        big = Web(FOURTEEN, full_ties(FOURTEEN, 13))
        self.is_true(is_bar(big, ["a"]))
        self.is_false(is_bar(big, []))


class Parts(Case):
    def looks_at(self, web, pairs, bar):
        partners = {}
        for one, other in pairs:
            partners[one], partners[other] = other, one
        told = parts_of(web, pairs, bar)
        self.assertEqual([part[0] for part in told], pieces_beside(web, bar))
        for part in told:
            self.assertEqual((type(part), len(part), type(part[2])), (tuple, 3, list))
            piece, word, names = part
            rest = [place for place in piece if place not in names]
            self.assertTrue(all(partners.get(place) in rest for place in rest))
            self.assertEqual({"even": 0, "single": 1, "bar": 2}[word], len(names))
            self.assertEqual(word == "even", len(piece) % 2 == 0)
            if word == "single":
                self.assertIn(names[0], piece)
                self.assertNotIn(names[0], partners)
            if word == "bar":
                self.assertIn(names[0], piece)
                self.assertIn(names[1], bar)
                self.assertEqual(partners[names[0]], names[1])
        self.assertEqual(sorted(names[1] for _, word, names in told if word == "bar"), sorted(bar))

    def test_a_paper_walked(self):
        told = parts_of(star(), [("e", "d"), ("m", "b")], ["m"])
        self.assertEqual(told, [(["a"], "single", ["a"]), (["b"], "bar", ["b", "m"]), (["c"], "single", ["c"]),
                                (["d", "e"], "even", [])])
        told = parts_of(star(), [("e", "d"), ("m", "b")], ["m", "d"])
        self.assertEqual([part[1:] for part in told], [("single", ["a"]), ("bar", ["b", "m"]), ("single", ["c"]),
                                                       ("bar", ["e", "d"])])
        self.assertEqual(parts_of(Web([], []), [], []), [])
        self.assertEqual(parts_of(ring_web("abc"), [("c", "a")], []), [(["a", "b", "c"], "single", ["b"])])

    def test_all_papers_of_small_webs(self):
        for web in all_webs("bdac"):
            for pairs in all_pairs(web):
                for bar in all_bars(web):
                    if shows(web, (pairs, bar)):
                        self.looks_at(web, pairs, bar)
                    else:
                        self.refuses(NoBar, bar, parts_of, web, pairs, bar)

    def test_papers_of_larger_webs(self):
        for web in told_webs() + mixed_webs(20, 12, 13):
            bar = paper_of(web)[1]
            for tie in [[]] + [[tie] for tie in web.ties()[::4]]:
                self.looks_at(web, greatest_from(web, tie)[0], bar)

    def test_no_pairs_ahead_of_the_bar(self):
        for thing in WRONG_PAIRS + [thing for thing in things() if thing != []]:
            for bar in (["m"], [], ["q"], None):
                self.refuses(NoPairs, thing, parts_of, line_web("abc"), thing, bar)

    def test_no_bar(self):
        web = star()
        pairs = greatest(web)
        for thing in WRONG_BARS + things() + [["a"], ["m", "a"]]:
            self.refuses(NoBar, thing, parts_of, web, pairs, thing)
        for bar in ([], ["m"], ["d", "m"]):
            self.refuses(NoBar, bar, parts_of, web, [("d", "e")], bar)
            self.refuses(NoBar, bar, parts_of, web, [], bar)


class Copies(Case):
    def test_what_is_handed_in_stays(self):
        web = star()
        for thing in things() + [["m", "d"], [("m", "a"), ("e", "d")], ([("m", "a"), ("e", "d")], ["d", "m"])]:
            for call in (pieces_beside, odd_pieces, lack_of, shows, is_bar):
                self.keeps(call, web, thing)
            self.keeps(parts_of, web, thing, ["m"])
            self.keeps(parts_of, web, [("m", "a"), ("e", "d")], thing)
        self.assertEqual(web.told(), star().told())

    def test_each_told_list_is_a_new_one(self):
        web = star()
        pairs, bar = [("m", "a"), ("e", "d")], ["d", "m"]
        for call in (lambda: pieces_beside(web, bar), lambda: odd_pieces(web, bar), lambda: parts_of(web, pairs, bar)):
            before = copied(call())
            told = call()
            for part in told:
                (part if isinstance(part, list) else part[0]).clear()
                if isinstance(part, tuple):
                    part[2].clear()
            told.clear()
            self.assertEqual(call(), before)
        paper = copied(paper_of(web))
        for told in paper_of(web):
            told.clear()
        self.assertEqual(paper_of(web), paper)
        self.assertEqual((pairs, bar), ([("m", "a"), ("e", "d")], ["d", "m"]))

    def test_the_same_question_has_the_same_answer(self):
        for web in told_webs():
            again = Web(web.places(), [(other, one) for one, other in reversed(web.ties())])
            self.assertEqual(paper_of(web), paper_of(again))


if __name__ == "__main__":
    unittest.main()
