"""[5], [44]: greatest pairs, how many they are, and the rows that lead to them from any pairs."""

import unittest

from helper import FOURTEEN, Case, all_pairs, all_webs, full_ties, line_web, mixed_webs, most_pairs, ring_web, things
from helper import told_webs
from onceroad.errors import NoPairs
from onceroad.greatest import count_of, greatest, greatest_from
from onceroad.pairs import are_pairs, singles, told_pairs
from onceroad.rows import turned
from onceroad.webs import Web


class Looks(Case):
    def looks_at(self, web):
        pairs = greatest(web)
        self.is_true(are_pairs(web, pairs))
        self.assertEqual(pairs, told_pairs(web, pairs))
        self.assertEqual((len(pairs), count_of(web)), (most_pairs(web), most_pairs(web)))
        self.assertIs(type(count_of(web)), int)

    def looks_from(self, web, pairs):
        told = greatest_from(web, pairs)
        self.assertEqual((type(told), len(told), type(told[1])), (tuple, 2, list))
        now = told_pairs(web, pairs)
        for row in told[1]:
            self.assertIs(type(row), list)
            single = singles(web, now)
            self.assertIn(row[0], single)
            self.assertIn(row[-1], single)
            now = turned(web, now, row)
        self.assertEqual(told[0], now)
        self.assertEqual(len(now), most_pairs(web))
        self.assertEqual(len(told[1]), len(now) - len(pairs))


class Greatest(Looks):
    def test_the_edges(self):
        self.assertEqual((greatest(Web([], [])), count_of(Web([], []))), ([], 0))
        self.assertEqual((greatest(Web(["a", "b"], [])), count_of(Web(["a", "b"], []))), ([], 0))
        self.assertEqual(greatest(line_web("ab")), [("a", "b")])
        self.assertEqual(greatest(line_web("abcd")), [("a", "b"), ("c", "d")])
        self.assertEqual(greatest(Web(list("dbca"), list(zip("abc", "bcd")))), [("d", "c"), ("b", "a")])
        self.assertEqual([count_of(ring_web(names)) for names in ("abc", "abcde", FOURTEEN)], [1, 2, 7])
        self.assertEqual(count_of(Web(FOURTEEN, full_ties(FOURTEEN, 13))), 1)

    def test_all_small_webs(self):
        for web in list(all_webs("bdac")) + list(all_webs("cebad")):
            self.looks_at(web)

    def test_larger_webs(self):
        for web in told_webs() + mixed_webs(40, 6, 7) + mixed_webs(40, 9, 11) + mixed_webs(20, 14, 21):
            self.looks_at(web)


class From(Looks):
    def test_from_pairs_that_are_greatest(self):
        web = line_web("abcd")
        self.assertEqual(greatest_from(web, [("d", "c"), ("b", "a")]), ([("a", "b"), ("c", "d")], []))
        self.assertEqual(greatest_from(Web([], []), []), ([], []))
        self.assertEqual(greatest_from(ring_web("abc"), [("c", "b")]), ([("b", "c")], []))

    def test_from_others(self):
        web = line_web("abcd")
        pairs, rows = greatest_from(web, [("c", "b")])
        self.assertEqual(pairs, [("a", "b"), ("c", "d")])
        self.assertIn(rows, ([list("abcd")], [list("dcba")]))
        self.looks_from(line_web(FOURTEEN), list(zip(FOURTEEN[2:13:2], FOURTEEN[1:13:2])))

    def test_from_all_pairs_of_small_webs(self):
        for web in list(all_webs("bdac")) + list(all_webs("cebad"))[::9] + mixed_webs(10, 7, 9):
            for pairs in all_pairs(web):
                self.looks_from(web, [(other, one) for one, other in reversed(pairs)])

    def test_from_pairs_of_none_and_of_one_on_larger_webs(self):
        for web in told_webs():
            self.looks_from(web, [])
            for tie in web.ties():
                self.looks_from(web, [tie])

    def test_no_pairs(self):
        web = line_web("abcd")
        wrong = [(), (("a", "b"),), [("a", "b"), ("b", "c")], [("a", "c")], [["a", "b"]], [("a", "b"), ("b", "a")]]
        for thing in wrong + [thing for thing in things() if thing != []]:
            self.refuses(NoPairs, thing, greatest_from, web, thing)
            self.refuses(NoPairs, thing, greatest_from, Web([], []), thing)


class Copies(Case):
    def test_what_is_handed_in_stays(self):
        web = line_web("abcdef")
        for thing in things() + [[("c", "b"), ("e", "d")], [("f", "e"), ("a", "b"), ("c", "d")]]:
            self.keeps(greatest_from, web, thing)
        self.assertEqual(web.told(), line_web("abcdef").told())

    def test_each_told_list_is_a_new_one(self):
        web = line_web("abcd")
        pairs = [("c", "d"), ("a", "b")]
        greatest_from(web, pairs)[0].clear()
        self.assertEqual(pairs, [("c", "d"), ("a", "b")])
        greatest(web).clear()
        told = greatest_from(web, [("b", "c")])
        told[1][0].clear()
        told[1].clear()
        self.assertEqual(greatest(web), [("a", "b"), ("c", "d")])
        self.assertEqual(len(greatest_from(web, [("b", "c")])[1][0]), 4)

    def test_the_same_question_has_the_same_answer(self):
        for web in told_webs():
            again = Web(web.places(), [(other, one) for one, other in reversed(web.ties())])
            self.assertEqual(greatest(web), greatest(again))
            self.assertEqual(greatest_from(web, web.ties()[-1:]), greatest_from(again, web.ties()[-1:]))


if __name__ == "__main__":
    unittest.main()
