"""[5], [6], [90], [91], [92], [93]: kept webs, their deeds, undoing, twins and news."""

import unittest

from helper import FOURTEEN, Case, copied, full_ties, line_web, loose_by_counting, mixed_webs, most_pairs, ring_web
from helper import things, told_webs
from onceroad.errors import NoBack, NoName, NoPlace, NoTie, OnceError, TooMany, Twice
from onceroad.kept import Kept
from onceroad.pairs import are_pairs, told_pairs
from onceroad.webs import Web

DEEDS = ("place_in", "place_out", "tie_in", "tie_out", "block", "unblock", "undo")


def kept_told(kept):
    return (kept.whole().told(), kept.web().told(), kept.blocked(), kept.pairs())


def turned_between(before, after):
    """The places of both webs that are loose in just one of them, in the order of the second."""
    ones, others = loose_by_counting(before), loose_by_counting(after)
    both = [place for place in after.places() if place in before.places()]
    return [place for place in both if (place in ones) != (place in others)]


class Looks(Case):
    def does(self, kept, deed, *args):
        """One deed that is not refused, with all that is told of it."""
        before = kept.web()
        pairs = kept.pairs()
        news = getattr(kept, deed)(*args)
        self.assertEqual((type(news), len(news)), (tuple, 3))
        self.assertEqual(news, (pairs, kept.pairs(), turned_between(before, kept.web())))
        self.assertLessEqual(abs(len(news[0]) - len(news[1])), 1)
        self.looks_at(kept)
        return news

    def looks_at(self, kept):
        web = kept.web()
        self.assertEqual(kept.blocked(), [place for place in kept.whole().places() if place in kept.blocked()])
        self.assertEqual(web.told(), kept.whole().without(kept.blocked()).told())
        pairs = kept.pairs()
        self.is_true(are_pairs(web, pairs))
        self.assertEqual((pairs, len(pairs)), (told_pairs(web, pairs), most_pairs(web)))

    def refused_and_same(self, kept, kind, thing, deed, *args):
        before = kept_told(kept)
        self.refuses(kind, thing, getattr(kept, deed), *args)
        self.assertEqual(kept_told(kept), before)


class Deeds(Looks):
    def test_at_first(self):
        for web in told_webs():
            kept = Kept(web)
            self.assertEqual((kept.whole().told(), kept.web().told(), kept.blocked()), (web.told(), web.told(), []))
            self.looks_at(kept)

    def test_each_deed(self):
        kept = Kept(Web([], []))
        self.assertEqual(self.does(kept, "place_in", "b"), ([], [], []))
        self.assertEqual(self.does(kept, "place_in", "a"), ([], [], []))
        self.assertEqual(self.does(kept, "tie_in", "a", "b"), ([], [("b", "a")], ["b", "a"]))
        self.assertEqual(self.does(kept, "place_in", "c"), ([("b", "a")], [("b", "a")], []))
        self.assertEqual(kept.whole().told(), (("b", "a", "c"), (("b", "a"),)))
        self.assertEqual(self.does(kept, "tie_in", "c", "a")[2], ["b"])
        self.assertEqual(self.does(kept, "block", "b"), ([("b", "a")], [("a", "c")], ["c"]))
        self.assertEqual((kept.web().told(), kept.blocked()), ((("a", "c"), (("a", "c"),)), ["b"]))
        self.assertEqual(self.does(kept, "unblock", "b")[2], ["c"])
        self.assertEqual(kept.web().told(), (("b", "a", "c"), (("b", "a"), ("a", "c"))))
        self.assertEqual(self.does(kept, "tie_out", "a", "b")[1:], ([("a", "c")], ["c"]))
        self.assertEqual(self.does(kept, "place_out", "c"), ([("a", "c")], [], ["a"]))
        self.assertEqual(kept.whole().told(), (("b", "a"), ()))

    def test_blocked_places(self):
        kept = Kept(line_web("abcd"))
        self.does(kept, "block", "d")
        self.does(kept, "block", "b")
        self.assertEqual((kept.blocked(), kept.web().told()), (["b", "d"], (("a", "c"), ())))
        self.does(kept, "tie_in", "d", "b")
        self.does(kept, "tie_in", "a", "d")
        self.assertEqual(kept.web().ties(), [])
        self.does(kept, "tie_out", "b", "c")
        self.does(kept, "unblock", "d")
        self.assertEqual((kept.web().places(), kept.web().ties()), (["a", "c", "d"], [("a", "d"), ("c", "d")]))
        self.does(kept, "place_out", "b")
        self.assertEqual((kept.blocked(), kept.whole().places()), ([], ["a", "c", "d"]))
        self.does(kept, "place_in", "b")
        self.assertEqual((kept.blocked(), kept.web().places()), ([], ["a", "c", "d", "b"]))

    def test_all_places_blocked(self):
        kept = Kept(ring_web("abc"))
        for place in "cab":
            self.does(kept, "block", place)
        self.assertEqual((kept.web().told(), kept.blocked(), kept.pairs()), (((), ()), ["a", "b", "c"], []))
        self.does(kept, "place_in", "d")
        self.assertEqual((kept.web().places(), kept.blocked()), (["d"], ["a", "b", "c"]))

    def test_what_turns(self):
        kept = Kept(line_web("abcde"))
        news = self.does(kept, "tie_in", "a", "e")
        self.assertEqual((news[2], kept.blocked()), (["b", "d"], []))
        self.assertEqual(self.does(kept, "undo")[2], ["b", "d"])

    def test_the_greatest_webs(self):
        kept = Kept(Web(FOURTEEN[:13], full_ties(FOURTEEN[:13], 29)))
        self.does(kept, "place_in", "n")
        self.does(kept, "tie_in", "n", "m")
        self.refuses_with(TooMany, 15, kept.place_in, "o")
        self.refuses_with(TooMany, 31, kept.tie_in, "n", "a")
        for place in "abc":
            self.does(kept, "block", place)
        self.refuses_with(TooMany, 15, kept.place_in, "o")
        self.refuses_with(TooMany, 31, kept.tie_in, "n", "a")
        self.does(kept, "place_out", "b")
        self.does(kept, "place_in", "o")
        self.does(kept, "tie_in", "o", "a")


class MixedDeeds(Looks):
    def test_deeds_in_mixed_order_and_all_undone(self):
        for turn, web in enumerate(mixed_webs(12, 7, 8) + mixed_webs(2, 13, 29) + [Web([], []), Web(["a"], [])]):
            kept = Kept(web)
            past = [kept_told(kept)]
            state = turn
            for _ in range(60):
                state = (state * 1103515245 + 12345) % 2147483648
                self.tries(kept, past, DEEDS[(state >> 8) % 7], state >> 11)
            while len(past) > 1:
                self.undoes(kept, past)
            self.caught(NoBack, kept.undo, ())
            self.assertEqual(kept_told(kept), past[0])

    def undoes(self, kept, past):
        news = self.does(kept, "undo")
        self.assertEqual(news[0], past.pop()[3])
        self.assertEqual(kept_told(kept), past[-1])

    def tries(self, kept, past, deed, number):
        one, other = FOURTEEN[number % 14], FOURTEEN[number // 14 % 14]
        args = {"undo": (), "tie_in": (one, other), "tie_out": (one, other)}.get(deed, (one,))
        if deed == "undo" and len(past) > 1:
            self.undoes(kept, past)
            return
        try:
            getattr(kept.twin(), deed)(*args)
        except OnceError:
            self.assertRaises(OnceError, getattr(kept, deed), *args)
            self.assertEqual(kept_told(kept), past[-1])
            return
        expected = self.whole_behind(kept, deed, args)
        self.does(kept, deed, *args)
        self.assertEqual((kept.whole().told(), kept.blocked()), expected)
        past.append(kept_told(kept))

    def whole_behind(self, kept, deed, args):
        """What the whole web and the blocked places have to be behind a deed."""
        whole = kept.whole()
        blocked = kept.blocked()
        if deed == "place_out":
            whole = whole.without(args)
        elif deed in ("place_in", "tie_in", "tie_out"):
            make = {"place_in": whole.with_place, "tie_in": whole.with_tie, "tie_out": whole.without_tie}[deed]
            whole = make(*args)
        if deed == "block":
            blocked.append(args[0])
        elif args[0] in blocked and deed in ("place_out", "unblock"):
            blocked.remove(args[0])
        return (whole.told(), [place for place in whole.places() if place in blocked])


class Refused(Looks):
    def setUp(self):
        self.kept = Kept(line_web("abcd"))
        self.kept.block("b")
        self.kept.block("d")

    def test_a_place_put_in(self):
        for thing in things() + ["A", "abcdefg", ["a"]]:
            self.refused_and_same(self.kept, NoName, thing, "place_in", thing)
        for name in "abcd":
            self.refused_and_same(self.kept, Twice, name, "place_in", name)
        full = Kept(line_web(FOURTEEN))
        full.block("c")
        self.refused_and_same(full, Twice, "c", "place_in", "c")
        self.refused_and_same(full, NoName, "C", "place_in", "C")
        self.refuses_with(TooMany, 15, full.place_in, "z")

    def test_a_place_taken_out(self):
        for thing in things() + ["q", ["a"], ("a",)]:
            self.refused_and_same(self.kept, NoPlace, thing, "place_out", thing)

    def test_ties(self):
        for deed in ("tie_in", "tie_out"):
            for thing in things() + ["q", ["a"]]:
                self.refused_and_same(self.kept, NoPlace, thing, deed, thing, "a")
                self.refused_and_same(self.kept, NoPlace, thing, deed, thing, ["q"])
                self.refused_and_same(self.kept, NoPlace, thing, deed, "a", thing)
                self.refused_and_same(self.kept, NoPlace, thing, deed, "b", thing)
            for place in "abcd":
                self.refuses_with(NoTie, (place, place), getattr(self.kept, deed), place, place)
        self.refuses_with(NoTie, ("b", "a"), self.kept.tie_in, "b", "a")
        self.refuses_with(NoTie, ("d", "a"), self.kept.tie_out, "d", "a")
        full = Kept(Web(FOURTEEN, full_ties(FOURTEEN, 30)))
        self.refuses_with(NoTie, ("b", "a"), full.tie_in, "b", "a")
        self.refuses_with(NoTie, ("n", "n"), full.tie_in, "n", "n")
        self.refuses_with(TooMany, 31, full.tie_in, "m", "n")

    def test_places_blocked_and_let_free(self):
        for thing in things() + ["q", ["a"], ("a",), "b", "d"]:
            self.refused_and_same(self.kept, NoPlace, thing, "block", thing)
        for thing in things() + ["q", ["b"], ("b",), "a", "c"]:
            self.refused_and_same(self.kept, NoPlace, thing, "unblock", thing)

    def test_undoing_where_no_deed_is_left(self):
        kept = Kept(line_web("abc"))
        before = kept_told(kept)
        self.caught(NoBack, kept.undo, ())
        kept.block("a")
        kept.undo()
        self.caught(NoBack, kept.undo, ())
        self.assertEqual(kept_told(kept), before)

    def test_what_is_refused_is_no_deed(self):
        kept = Kept(line_web("abc"))
        kept.place_in("d")
        for deed, args in (("place_in", ("a",)), ("place_out", ("q",)), ("tie_in", ("a", "b")), ("tie_out", ("a", "c")),
                           ("block", (None,)), ("unblock", ("a",))):
            self.assertRaises(OnceError, getattr(kept, deed), *args)
        kept.undo()
        self.assertEqual(kept.whole().told(), line_web("abc").told())
        self.caught(NoBack, kept.undo, ())


class Twins(Looks):
    def test_twins_tell_the_same_and_go_their_own_ways(self):
        kept = Kept(ring_web("abcde"))
        kept.block("b")
        kept.tie_in("a", "c")
        twin = kept.twin()
        self.assertIsInstance(twin, Kept)
        before = kept_told(kept)
        self.assertEqual(kept_told(twin), before)
        self.does(twin, "unblock", "b")
        self.does(twin, "place_out", "e")
        self.assertEqual(kept_told(kept), before)
        self.does(kept, "undo")
        self.assertEqual((twin.whole().places(), kept.blocked()), (list("abcd"), ["b"]))
        for _ in range(4):
            self.does(twin, "undo")
        self.assertEqual(kept_told(twin), kept_told(Kept(ring_web("abcde"))))
        self.caught(NoBack, twin.undo, ())
        self.does(kept, "undo")
        self.caught(NoBack, kept.undo, ())

    def test_a_twin_without_deeds(self):
        twin = Kept(line_web("ab")).twin()
        self.caught(NoBack, twin.undo, ())
        self.does(twin, "block", "a")


class Copies(Looks):
    def test_each_told_list_is_a_new_one(self):
        kept = Kept(line_web("abcde"))
        news = kept.block("a")
        for told in news:
            told.clear()
        before = copied(kept_told(kept))
        kept.blocked().append("q")
        kept.blocked().clear()
        kept.pairs().clear()
        self.assertEqual(kept_told(kept), before)
        for told in kept.undo():
            told.append("q")
        self.assertEqual(kept_told(kept), kept_told(Kept(line_web("abcde"))))

    def test_what_is_handed_in_stays(self):
        web = line_web("abc")
        kept = Kept(web)
        for thing in things() + ["a"]:
            for deed in ("place_in", "place_out", "block", "unblock"):
                self.keeps(getattr(kept.twin(), deed), thing)
            for deed in ("tie_in", "tie_out"):
                self.keeps(getattr(kept.twin(), deed), thing, thing)
                self.keeps(getattr(kept.twin(), deed), "a", thing)
        kept.place_out("b")
        self.assertEqual(web.told(), line_web("abc").told())

    def test_two_kept_webs_of_one_web(self):
        web = line_web("abc")
        one, other = Kept(web), Kept(web)
        one.block("b")
        self.assertEqual((other.blocked(), other.web().told()), ([], web.told()))

    def test_the_same_question_has_the_same_answer(self):
        for web in told_webs():
            one, other = Kept(web), Kept(Web(web.places(), web.ties()[::-1]))
            for place in web.places():
                self.assertEqual(one.block(place), other.block(place))
                self.assertEqual(kept_told(one), kept_told(other))


if __name__ == "__main__":
    unittest.main()
