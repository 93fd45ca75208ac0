"""[5], [40], [41], [42], [43]: forests, their rows, the places that are reached evenly, and folds."""

import unittest

from helper import FOURTEEN, Case, all_pairs, all_webs, line_web, loose_by_counting, mixed, mixed_webs, most_pairs
from helper import ring_web, things, told_webs
from onceroad.errors import NoPairs, NoPlace
from onceroad.forests import Forest
from onceroad.pairs import are_pairs, partner_of, singles
from onceroad.rows import is_row, turned
from onceroad.webs import Web

WRONG_PAIRS = [(("a", "b"),), (), [("a", "b"), ("b", "c")], [("a", "c")], [["a", "b"]], [("a", "b"), ("b", "a")]]


def paired(pairs, one, other):
    return (one, other) in pairs or (other, one) in pairs


def some_pairs(web, turn):
    """Pairs of a web, taken one behind another from its ties in a mixed order, not always as many as go."""
    pairs = []
    for one, other in mixed(web.ties(), turn):
        if not any(place in pair for place in (one, other) for pair in pairs):
            pairs.append((other, one))
    return pairs[turn % 3:]


class Looks(Case):
    """All that the document tells of a forest, looked at for one web and pairs of it."""

    def looks_at(self, web, pairs, most, loose):
        forest = Forest(web, pairs)
        if len(pairs) < most:
            self.looks_at_row(web, pairs, forest.row())
            self.assertIsNone(forest.reached())
            self.assertEqual([forest.row_to(place) for place in web.places()], [None] * web.how_many())
        else:
            self.assertIsNone(forest.row())
            self.assertEqual(forest.reached(), loose)
            for place in web.places():
                self.looks_at_row_to(web, pairs, place, forest.row_to(place), loose)
            for one, other in web.ties():
                if one in loose and other in loose:
                    self.assertTrue(any(one in fold and other in fold for fold in forest.folds()))
        self.looks_at_folds(web, pairs, forest.folds())

    def looks_at_row(self, web, pairs, row):
        self.assertIs(type(row), list)
        self.is_true(is_row(web, pairs, row))
        single = singles(web, pairs)
        self.assertIn(row[0], single)
        self.assertIn(row[-1], single)
        self.assertNotEqual(row[0], row[-1])
        after = turned(web, pairs, row)
        self.is_true(are_pairs(web, after))
        self.assertEqual(len(after), len(pairs) + 1)

    def looks_at_row_to(self, web, pairs, place, row, loose):
        single = singles(web, pairs)
        if place not in loose:
            self.assertIsNone(row)
        elif place in single:
            self.assertEqual(row, [place])
        else:
            self.is_true(is_row(web, pairs, row))
            self.assertIn(row[0], single)
            self.assertEqual(row[-1], place)
            self.assertFalse(paired(pairs, row[0], row[1]))
            self.assertTrue(paired(pairs, row[-2], row[-1]))
            after = turned(web, pairs, row)
            self.assertEqual(len(after), len(pairs))
            self.assertIn(place, singles(web, after))

    def looks_at_folds(self, web, pairs, folds):
        numbers = [[web.number_of(name) for name in fold] for fold in folds]
        self.assertTrue(all(fold == sorted(set(fold)) for fold in numbers))
        orders = [(fold[0], len(fold)) for fold in numbers]
        self.assertEqual(orders, sorted(orders))
        for at, fold in enumerate(folds):
            self.assertEqual((len(fold) % 2, len(fold) >= 3), (1, True))
            without = [place for place in fold if partner_of(web, pairs, place) not in fold]
            self.assertEqual(len(without), 1)
            others = [place for place in web.places() if place not in fold]
            for place in fold:
                self.assertEqual(most_pairs(web.without(others + [place])), len(fold) // 2)
            for other in folds[:at]:
                self.assertNotEqual(fold, other)
                both = set(fold) & set(other)
                self.assertIn(both, (set(), set(fold), set(other)))


class SmallWebs(Looks):
    def test_all_pairs_of_all_webs_of_four_places(self):
        for web in all_webs("bdac"):
            self.looks_at_all(web)

    def test_all_pairs_of_webs_of_five_to_seven_places(self):
        webs = list(all_webs("cebad"))[::5] + mixed_webs(20, 6, 8) + mixed_webs(20, 7, 9) + mixed_webs(5, 7, 12)
        for web in webs:
            self.looks_at_all(web)

    def looks_at_all(self, web):
        most = most_pairs(web)
        loose = loose_by_counting(web)
        for pairs in all_pairs(web):
            self.looks_at(web, pairs, most, loose)


class LargerWebs(Looks):
    def test_greatest_pairs_and_others(self):
        for web in told_webs() + mixed_webs(20, 11, 14) + mixed_webs(20, 13, 17) + mixed_webs(10, 9, 14):
            most = most_pairs(web)
            loose = loose_by_counting(web)
            for turn in range(6):
                pairs = some_pairs(web, turn)
                self.looks_at(web, pairs, most, loose)
                row = Forest(web, pairs).row()
                while row is not None:
                    pairs = turned(web, pairs, row)
                    self.looks_at(web, pairs, most, loose)
                    row = Forest(web, pairs).row()


class Rows(Looks):
    def test_pairs_of_none(self):
        self.assertIn(Forest(line_web("ab"), []).row(), (["a", "b"], ["b", "a"]))
        self.assertIsNone(Forest(Web(["a", "b"], []), []).row())
        self.assertIsNone(Forest(Web([], []), []).row())
        self.looks_at_row(line_web(FOURTEEN), [], Forest(line_web(FOURTEEN), []).row())

    def test_a_row_through_all_places(self):
        pairs = list(zip(FOURTEEN[1:13:2], FOURTEEN[2:13:2]))
        self.assertIn(Forest(line_web(FOURTEEN), pairs).row(), (FOURTEEN, FOURTEEN[::-1]))

    def test_a_row_only_through_a_fold(self):
        # From a to x a row goes by the ring of c, d, e alone: in at c, round by e, out at d.
        web = Web(list("abcdex"), [("a", "b"), ("b", "c"), ("c", "d"), ("d", "e"), ("e", "c"), ("d", "x")])
        row = Forest(web, [("b", "c"), ("d", "e")]).row()
        self.assertIn(row, (list("abcedx"), list("xdecba")))

    def test_greatest_pairs_have_no_row(self):
        self.assertIsNone(Forest(ring_web("abc"), [("c", "a")]).row())
        self.assertIsNone(Forest(line_web("abcd"), [("b", "a"), ("d", "c")]).row())
        self.assertIsNotNone(Forest(line_web("abcd"), [("b", "c")]).row())


class Reached(Case):
    def test_a_line(self):
        forest = Forest(line_web("abcde"), [("a", "b"), ("d", "c")])
        self.assertEqual(forest.reached(), ["a", "c", "e"])
        self.assertEqual([forest.row_to(place) for place in "abcde"], [list("edcba"), None, list("edc"), None, ["e"]])
        self.assertEqual(forest.folds(), [])

    def test_a_ring_of_three_and_one_of_five(self):
        forest = Forest(ring_web("cab"), [("b", "c")])
        self.assertEqual((forest.reached(), forest.folds()), (["c", "a", "b"], [["c", "a", "b"]]))
        self.assertEqual((forest.row_to("a"), forest.row_to("b"), forest.row_to("c")), (["a"], list("acb"), list("abc")))
        forest = Forest(ring_web("abcde"), [("b", "c"), ("e", "d")])
        self.assertEqual((forest.reached(), forest.folds()), (list("abcde"), [list("abcde")]))
        self.assertEqual((forest.row_to("c"), forest.row_to("b")), (list("abc"), list("aedcb")))

    def test_none_where_the_pairs_are_not_greatest(self):
        forest = Forest(line_web("abcd"), [("c", "b")])
        self.assertIsNone(forest.reached())
        self.assertEqual([forest.row_to(place) for place in "abcd"], [None] * 4)

    def test_nothing_is_reached_where_none_is_single(self):
        forest = Forest(line_web("abcd"), [("b", "a"), ("c", "d")])
        self.assertEqual((forest.reached(), forest.row(), forest.folds()), ([], None, []))
        self.assertEqual(Forest(Web([], []), []).reached(), [])
        self.assertEqual(Forest(Web([], []), []).folds(), [])

    def test_places_without_ties(self):
        forest = Forest(Web(["b", "a"], []), [])
        self.assertEqual((forest.reached(), forest.row_to("a"), forest.folds()), (["b", "a"], ["a"], []))


class Folds(Looks):
    def setUp(self):
        # A ring of c, d, e in a ring of all seven, and the one single place a.
        self.ties = list(zip("abcdcdfg", "bcdeefga"))
        self.pairs = [("b", "c"), ("e", "d"), ("f", "g")]

    def test_a_fold_within_a_fold(self):
        folds = Forest(Web(list("abcdefg"), self.ties), self.pairs).folds()
        self.assertEqual(folds, [list("abcdefg"), ["c", "d", "e"]])

    def test_those_with_one_first_place_rise_by_how_many_they_are(self):
        folds = Forest(Web(list("cabdefg"), self.ties), self.pairs).folds()
        self.assertEqual(folds, [["c", "d", "e"], list("cabdefg")])

    def test_in_whatever_order(self):
        for turn in range(40):
            order = mixed("abcdefg", turn)
            web = Web(order, mixed(self.ties, turn))
            self.looks_at(web, self.pairs, 3, order)
            self.assertIn(order, Forest(web, self.pairs).folds())

    def test_two_rings_apart(self):
        web = Web(list("xdaebfc"), list(zip("abcdef", "bcaefd")))
        folds = Forest(web, [("b", "c"), ("d", "e")]).folds()
        self.assertEqual(folds, [["d", "e", "f"], ["a", "b", "c"]])


class Refused(Case):
    def test_no_pairs(self):
        web = line_web("abcd")
        for thing in WRONG_PAIRS + [thing for thing in things() if thing != []]:
            self.refuses(NoPairs, thing, Forest, web, thing)
        for thing in [[("a", "b")], (), None]:
            self.refuses(NoPairs, thing, Forest, Web([], []), thing)

    def test_no_place(self):
        greatest = Forest(ring_web("abc"), [("a", "b")])
        other = Forest(line_web("abcd"), [("c", "b")])
        for thing in things() + ["q", ["a"], ("a",)]:
            self.refuses(NoPlace, thing, greatest.row_to, thing)
            self.refuses(NoPlace, thing, other.row_to, thing)
            self.refuses(NoPlace, thing, Forest(Web([], []), []).row_to, thing)


class Copies(Case):
    def test_what_is_handed_in_stays_and_is_kept_as_a_copy(self):
        web = ring_web("abc")
        pairs = [("c", "b")]
        forest = Forest(web, pairs)
        pairs.clear()
        self.assertEqual(forest.row_to("c"), ["a", "b", "c"])
        for thing in things() + [[("c", "b")], [("a", "b")]]:
            self.keeps(Forest, web, thing)
            self.keeps(forest.row_to, thing)
        self.assertEqual(web.told(), ring_web("abc").told())

    def test_each_told_list_is_a_new_one(self):
        forest = Forest(ring_web("abc"), [("c", "b")])
        forest.reached().clear()
        forest.row_to("a").append("q")
        forest.row_to("b").clear()
        forest.folds()[0].clear()
        forest.folds().clear()
        self.assertEqual((forest.reached(), forest.folds()), (list("abc"), [list("abc")]))
        self.assertEqual((forest.row_to("a"), forest.row_to("b")), (["a"], ["a", "c", "b"]))
        forest = Forest(line_web("ab"), [])
        forest.row().clear()
        self.assertEqual(sorted(forest.row()), ["a", "b"])

    def test_the_same_question_has_the_same_answer(self):
        for web in told_webs():
            for turn in range(3):
                pairs = some_pairs(web, turn)
                one = Forest(web, pairs)
                other = Forest(Web(web.places(), web.ties()), list(pairs))
                self.assertEqual((one.row(), one.reached(), one.folds()), (other.row(), other.reached(), other.folds()))
                for place in web.places():
                    self.assertEqual(one.row_to(place), other.row_to(place))


if __name__ == "__main__":
    unittest.main()
