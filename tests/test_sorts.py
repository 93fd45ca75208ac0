"""[5], [7], [60], [61], [62], [63], [64]: the three sorts of places, and pairs that leave places single."""

import unittest
from itertools import combinations

from helper import FOURTEEN, Case, all_pairs, all_webs, full_ties, greatest_by_trying, line_web, loose_by_counting
from helper import mixed_webs, most_pairs, ring_web, things, told_webs
from onceroad.bars import is_bar, odd_pieces, pieces_beside
from onceroad.errors import NoPairs, NoPlace
from onceroad.greatest import greatest, greatest_from
from onceroad.pairs import are_pairs, partner_of, singles, told_pairs
from onceroad.rows import turned
from onceroad.sorts import fast, held, leaving_both, leaving_out, loose, piece_pairs, row_out, sort_of, sorts
from onceroad.webs import Web


def sorts_by_counting(web):
    free = loose_by_counting(web)
    told = {}
    for place in web.places():
        tied = any(other in free for other in web.beside(place))
        told[place] = "loose" if place in free else "held" if tied else "fast"
    return told


def small_webs():
    return list(all_webs("bdac")) + list(all_webs("cebad"))[::4] + mixed_webs(25, 6, 7) + mixed_webs(15, 7, 8)


class Sorts(Case):
    def looks_at(self, web):
        told = sorts_by_counting(web)
        self.assertEqual(sorts(web), told)
        self.assertIs(type(sorts(web)), dict)
        self.assertEqual([sort_of(web, place) for place in web.places()], [told[place] for place in web.places()])
        for call, word in ((loose, "loose"), (held, "held"), (fast, "fast")):
            self.assertEqual(call(web), [place for place in web.places() if told[place] == word])

    def test_some_webs(self):
        self.assertEqual((sorts(Web([], [])), loose(Web([], [])), held(Web([], [])), fast(Web([], []))), ({}, [], [], []))
        self.assertEqual(sorts(Web(["b", "a"], [])), {"a": "loose", "b": "loose"})
        self.assertEqual(sorts(line_web("abc")), {"a": "loose", "b": "held", "c": "loose"})
        self.assertEqual(sorts(line_web("ab")), {"a": "fast", "b": "fast"})
        for names in ("abc", "cebad"):
            self.assertEqual(loose(ring_web(names)), list(names))
        self.assertEqual(fast(ring_web(FOURTEEN)), FOURTEEN)

    def test_all_three_sorts_in_one_piece(self):
        # A ring of three beside b, at which a and the two fast places d, e hang, too.
        web = Web(list("xedybaz"), list(zip("abdxyzb", "bdeyzxx")))
        self.assertEqual((loose(web), held(web), fast(web)), (list("xyaz"), ["b"], ["e", "d"]))
        web = Web(list("ecdba"), [("a", "b"), ("b", "c"), ("b", "d"), ("d", "e")])
        self.assertEqual(sorts(web), {"a": "loose", "b": "held", "c": "loose", "d": "fast", "e": "fast"})
        self.assertEqual((loose(web), held(web), fast(web)), (["c", "a"], ["b"], ["e", "d"]))

    def test_small_webs_by_all_greatest_pairs(self):
        for web in small_webs():
            self.looks_at(web)
            left = [singles(web, pairs) for pairs in greatest_by_trying(web)]
            self.assertEqual(loose(web), [place for place in web.places() if any(place in one for one in left)])

    def test_larger_webs(self):
        for web in told_webs() + mixed_webs(30, 10, 11) + mixed_webs(20, 13, 15):
            self.looks_at(web)

    def test_no_place(self):
        for thing in things() + ["q", ["a"], ("a",)]:
            for web in (line_web("abc"), Web([], [])):
                self.refuses(NoPlace, thing, sort_of, web, thing)


class Leaving(Case):
    def looks_at(self, web, pairs, places, may):
        if not may:
            self.assertIsNone(pairs)
            return
        self.is_true(are_pairs(web, pairs))
        self.assertEqual(pairs, told_pairs(web, pairs))
        self.assertEqual(len(pairs), most_pairs(web))
        for place in places:
            self.assertIn(place, singles(web, pairs))

    def test_one_place(self):
        web = line_web("abc")
        self.assertEqual([leaving_out(web, place) for place in "abc"], [[("b", "c")], None, [("a", "b")]])
        self.assertEqual(leaving_out(Web(["a"], []), "a"), [])
        self.assertEqual(leaving_out(ring_web("abc"), "b"), [("a", "c")])
        self.assertIsNone(leaving_out(line_web("ab"), "a"))

    def test_two_places(self):
        web = Web(list("mabc"), [("m", "a"), ("b", "m"), ("m", "c")])
        self.assertEqual(leaving_both(web, "a", "c"), [("m", "b")])
        self.assertIsNone(leaving_both(web, "a", "m"))
        self.assertIsNone(leaving_both(line_web("abc"), "a", "c"))
        self.assertEqual(leaving_both(Web(["a", "b"], []), "b", "a"), [])

    def test_one_place_twice(self):
        for web in told_webs():
            for place in web.places():
                self.assertEqual(leaving_both(web, place, place), leaving_out(web, place))

    def test_small_webs_by_all_greatest_pairs(self):
        for web in small_webs():
            left = [singles(web, pairs) for pairs in greatest_by_trying(web)]
            for one in web.places():
                self.looks_at(web, leaving_out(web, one), [one], any(one in names for names in left))
                for other in web.places():
                    both = any(one in names and other in names for names in left)
                    self.looks_at(web, leaving_both(web, one, other), [one, other], both)

    def test_larger_webs(self):
        for web in told_webs():
            most = most_pairs(web)
            for one in web.places():
                self.looks_at(web, leaving_out(web, one), [one], most_pairs(web.without([one])) == most)
            for one, other in list(combinations(web.places(), 2))[::5]:
                both = most_pairs(web.without([one, other])) == most
                self.looks_at(web, leaving_both(web, other, one), [one, other], both)

    def test_no_place(self):
        web = line_web("abc")
        for thing in things() + ["q", ["a"], ("a",)]:
            self.refuses(NoPlace, thing, leaving_out, web, thing)
            self.refuses(NoPlace, thing, leaving_both, web, thing, "a")
            self.refuses(NoPlace, thing, leaving_both, web, thing, ["q"])
            self.refuses(NoPlace, thing, leaving_both, web, "a", thing)
            self.refuses(NoPlace, thing, leaving_both, web, thing, thing)
            self.refuses(NoPlace, thing, leaving_out, Web([], []), thing)


class RowOut(Case):
    def looks_at(self, web, pairs, place, free):
        row = row_out(web, pairs, place)
        if place not in free:
            self.assertIsNone(row)
            return
        self.assertIs(type(row), list)
        self.assertIn(row[0], singles(web, pairs))
        self.assertEqual((row[-1], len(row) % 2, len(set(row))), (place, 1, len(row)))
        if place in singles(web, pairs):
            self.assertEqual(row, [place])
            return
        for at, (one, other) in enumerate(zip(row, row[1:])):
            self.is_true(web.tied(one, other))
            self.assertEqual((one, other) in pairs or (other, one) in pairs, at % 2 == 1)
        after = turned(web, pairs, row)
        self.assertEqual(len(after), len(pairs))
        self.assertIn(place, singles(web, after))

    def test_a_line(self):
        web = line_web("abcde")
        pairs = [("b", "a"), ("c", "d")]
        told = [row_out(web, pairs, place) for place in "abcde"]
        self.assertEqual(told, [list("edcba"), None, list("edc"), None, ["e"]])
        self.assertIsNone(row_out(line_web("ab"), [("b", "a")], "a"))
        self.assertEqual(row_out(Web(["a"], []), [], "a"), ["a"])

    def test_all_greatest_pairs_of_small_webs(self):
        for web in small_webs():
            free = loose_by_counting(web)
            for pairs in greatest_by_trying(web):
                for place in web.places():
                    self.looks_at(web, [(other, one) for one, other in reversed(pairs)], place, free)

    def test_larger_webs(self):
        for web in told_webs() + mixed_webs(10, 13, 15):
            free = loose_by_counting(web)
            for tie in [[]] + [[tie] for tie in web.ties()[::6]]:
                pairs = greatest_from(web, tie)[0]
                for place in web.places():
                    self.looks_at(web, pairs, place, free)

    def test_no_pairs_and_none_that_are_greatest(self):
        web = line_web("abcd")
        wrong = [(), (("a", "b"), ("c", "d")), [("a", "b"), ("b", "c")], [("a", "c")], [["a", "b"]]]
        lesser = [[], [("a", "b")], [("b", "c")], [("d", "c")]]
        for thing in wrong + lesser + [thing for thing in things() if thing != []]:
            for place in ("a", "q", None, ["a"]):
                self.refuses(NoPairs, thing, row_out, web, thing, place)

    def test_pairs_that_are_not_greatest_on_small_webs(self):
        for web in all_webs("bdac"):
            for pairs in all_pairs(web):
                if len(pairs) < most_pairs(web):
                    self.refuses(NoPairs, pairs, row_out, web, pairs, "a")

    def test_no_place(self):
        for thing in things() + ["q", ["a"], ("a",)]:
            self.refuses(NoPlace, thing, row_out, line_web("abcd"), [("a", "b"), ("d", "c")], thing)
            self.refuses(NoPlace, thing, row_out, ring_web("abc"), [("a", "b")], thing)
            self.refuses(NoPlace, thing, row_out, Web([], []), [], thing)


class PiecePairs(Case):
    def looks_at(self, web, words):
        pieces = web.without([place for place in web.places() if words[place] == "held"]).pieces()
        for place in web.places():
            pairs = piece_pairs(web, place)
            if words[place] != "loose":
                self.assertIsNone(pairs)
                continue
            self.is_true(are_pairs(web, pairs))
            self.assertEqual(pairs, told_pairs(web, pairs))
            own = [piece for piece in pieces if place in piece][0]
            self.assertEqual(sorted(name for pair in pairs for name in pair), sorted(set(own) - {place}))

    def test_some_webs(self):
        self.assertEqual(piece_pairs(Web(["a", "b"], []), "b"), [])
        self.assertEqual(piece_pairs(ring_web("abc"), "b"), [("a", "c")])
        self.assertEqual([piece_pairs(line_web("abc"), place) for place in "abc"], [[], None, []])
        self.assertIsNone(piece_pairs(line_web("ab"), "a"))
        web = Web(list("abcdefg"), list(zip("abcdef", "bcaefd")))
        self.assertEqual(piece_pairs(web, "e"), [("d", "f")])

    def test_small_and_larger_webs(self):
        for web in small_webs() + told_webs() + mixed_webs(20, 12, 14):
            self.looks_at(web, sorts_by_counting(web))

    def test_no_place(self):
        for thing in things() + ["q", ["a"], ("a",)]:
            self.refuses(NoPlace, thing, piece_pairs, line_web("abc"), thing)
            self.refuses(NoPlace, thing, piece_pairs, Web([], []), thing)


class HeldPlaces(Case):
    def looks_at(self, web, words, pieces, pairs):
        partners = {place: partner_of(web, pairs, place) for place in web.places()}
        within = []
        for place in web.places():
            if words[place] == "held":
                self.assertEqual(words[partners[place]], "loose")
                within += [at for at, piece in enumerate(pieces) if partners[place] in piece]
            if words[place] == "fast":
                self.assertEqual(words[partners[place]], "fast")
        self.assertEqual(len(within), len(set(within)))
        out = []
        for piece in pieces:
            found = [place for place in piece if partners[place] is None or words[partners[place]] == "held"]
            self.assertEqual(len(found), 1)
            out += found
        return out

    def test_small_webs_by_all_greatest_pairs(self):
        for web in small_webs() + [Web(list("mabcdefg"), list(zip("abcdefmm", "bcaefdag")) + [("m", "d")])]:
            words = sorts(web)
            bar = held(web)
            self.is_true(is_bar(web, bar))
            pieces = odd_pieces(web, bar)
            self.assertEqual(sorted(name for piece in pieces for name in piece), sorted(loose(web)))
            others = [piece for piece in pieces_beside(web, bar) if piece not in pieces]
            self.assertEqual(sorted(name for piece in others for name in piece), sorted(fast(web)))
            out = [self.looks_at(web, words, pieces, pairs) for pairs in greatest_by_trying(web)]
            self.assertEqual(sorted({name for names in out for name in names}), sorted(loose(web)))

    def test_webs_of_fourteen_places(self):
        for web in told_webs():
            words = sorts(web)
            self.is_true(is_bar(web, held(web)))
            pieces = odd_pieces(web, held(web))
            for tie in [[]] + [[tie] for tie in web.ties()]:
                self.looks_at(web, words, pieces, greatest_from(web, tie)[0])


class Copies(Case):
    def test_what_is_handed_in_stays(self):
        web = line_web("abc")
        for thing in things() + [[("b", "a")], "a", "b"]:
            for call in (sort_of, leaving_out, piece_pairs):
                self.keeps(call, web, thing)
            for call in (leaving_both, row_out):
                self.keeps(call, web, thing, thing)
                self.keeps(call, web, thing, "a")
            self.keeps(leaving_both, web, "a", thing)
            self.keeps(row_out, web, [("b", "a")], thing)
        self.assertEqual(web.told(), line_web("abc").told())

    def test_each_told_list_and_dict_is_a_new_one(self):
        web = Web(list("ecdba"), [("a", "b"), ("b", "c"), ("b", "d"), ("d", "e")])
        calls = [(sorts,), (loose,), (held,), (fast,), (leaving_out, "a"), (leaving_both, "c", "c"), (piece_pairs, "a"),
                 (row_out, greatest(web), "a"), (row_out, greatest(web), "c")]
        for call in calls:
            before = call[0](web, *call[1:])
            self.assertIsNot(call[0](web, *call[1:]), before)
            call[0](web, *call[1:]).clear()
            self.assertEqual(call[0](web, *call[1:]), before)

    def test_the_same_question_has_the_same_answer(self):
        for web in told_webs():
            again = Web(web.places(), [(other, one) for one, other in reversed(web.ties())])
            pairs = greatest(web)
            for place in web.places():
                self.assertEqual(leaving_out(web, place), leaving_out(again, place))
                self.assertEqual(row_out(web, pairs, place), row_out(again, pairs, place))
                self.assertEqual(piece_pairs(web, place), piece_pairs(again, place))

    def test_the_greatest_webs(self):
        web = Web(FOURTEEN, full_ties(FOURTEEN, 13))
        self.assertEqual((held(web), loose(web), fast(web)), (["a"], FOURTEEN[1:], []))
        self.assertEqual(leaving_both(web, "b", "c"), leaving_both(web, "c", "b"))


if __name__ == "__main__":
    unittest.main()
