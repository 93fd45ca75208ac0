"""[104]: roads written as texts, and read."""

import unittest

from helper import FOURTEEN, Case, all_webs, line_web, mixed_webs, other_things, ring_web, road_told, roads_by_trying
from helper import things, went
from onceroad.errors import NoText
from onceroad.roads import Road
from onceroad.roadtext import read_road, show_road
from onceroad.webs import Web


class Written(Case):
    def test_texts(self):
        self.assertEqual(show_road(Road(ring_web("abc"), "b")), "b")
        self.assertEqual(show_road(went(ring_web("abc"), list("abca"))), "a > b > c > a")
        self.assertEqual(show_road(Road(Web(["abcdef"], []), "abcdef")), "abcdef")

    def test_the_road_stays(self):
        road = went(ring_web("abc"), list("ab"))
        before = road_told(road)
        self.assertEqual(show_road(road), show_road(road))
        self.assertEqual(road_told(road), before)


class Read(Case):
    def setUp(self):
        # Two rings of three at the place a.
        self.web = Web(list("abcde"), [("a", "b"), ("b", "c"), ("a", "c"), ("a", "d"), ("d", "e"), ("a", "e")])

    def test_what_is_written_is_read_again(self):
        for web in list(all_webs("bdac"))[::5] + mixed_webs(2, 6, 7) + [self.web]:
            for start in web.places():
                for row in roads_by_trying(web.ties(), start, 30):
                    road = went(web, [start] + row)
                    read = read_road(web, show_road(road))
                    self.assertIsInstance(read, Road)
                    self.assertEqual(road_told(read), road_told(road))
        web = ring_web(FOURTEEN)
        self.assertEqual(read_road(web, " > ".join(FOURTEEN + ["a"])).gone(), FOURTEEN + ["a"])

    def test_a_road_without_moves(self):
        self.assertEqual(road_told(read_road(self.web, "c")), road_told(Road(self.web, "c")))

    def test_what_was_read_goes_on(self):
        road = read_road(self.web, "a > b > c > a")
        road.go("d")
        self.assertEqual([road.back() for _ in range(4)], ["d", "a", "c", "b"])

    def refuses_at(self, at, text):
        self.refuses_with(NoText, at, read_road, self.web, text)

    def test_what_is_no_text(self):
        for thing in other_things(str) + [["a"], ("a", "b")]:
            self.refuses_at(0, thing)

    def test_no_start(self):
        texts = [thing for thing in things() if isinstance(thing, str) and thing != "a > b"]
        for text in texts + ["q", "a>b", "a >b", "a> b", "a b", "a  > b", " a > b", "> a", " > a", "a >", "A > b", "a\n"]:
            self.refuses_at(0, text)
        self.refuses_with(NoText, 0, read_road, Web([], []), "a")
        self.refuses_with(NoText, 0, read_road, Web([], []), "")

    def test_the_first_word_that_is_no_move(self):
        for word in ("", " ", "a", "q", "B", "b ", " b", "b\n", "\nb", "> b", "b>c", ">"):
            self.refuses_at(1, "a > " + word + " > q")
        self.refuses_at(1, "a > ")
        self.refuses_at(1, "a > > b")
        self.refuses_at(1, "a >  > b")
        self.refuses_at(1, "a > b >")
        self.refuses_at(1, "b > d")
        self.refuses_at(2, "a > b > ")
        self.refuses_at(2, "a > b > > c")
        self.refuses_at(2, "a > b >  c")
        self.refuses_at(2, "a > b > c  > a")
        self.refuses_at(2, "a > b > c\n > a")

    def test_words_left_out_or_twice(self):
        self.refuses_at(2, "a > b > b > c")
        self.refuses_at(1, "a > a > b")
        self.refuses_at(2, "a > b > a > d")
        self.refuses_at(2, "a > b > d")

    def test_a_tie_gone_twice(self):
        self.refuses_at(2, "a > b > a")
        self.refuses_at(4, "a > b > c > a > b")
        self.refuses_at(4, "a > b > c > a > c > q")
        self.refuses_at(7, "a > b > c > a > d > e > a > b")
        self.assertEqual(read_road(self.web, "a > b > c > a > d > e > a").loser(), 0)
        self.refuses_with(NoText, 3, read_road, line_web("abc"), "a > b > c > b")

    def test_the_web_stays(self):
        before = self.web.told()
        for text in things() + ["a > b > c > a"]:
            self.keeps(read_road, self.web, text)
        self.assertEqual(self.web.told(), before)


if __name__ == "__main__":
    unittest.main()
