"""[24]: plays written as texts, and read."""

import unittest

from helper import FOURTEEN, Case, line_web, other_things, ring_web, things
from onceroad.errors import NoText
from onceroad.plays import Play, played, rows_within
from onceroad.playtext import read_play, show_play
from onceroad.webs import Web


class Written(Case):
    def test_texts(self):
        self.assertEqual(show_play(Play(line_web("abc"), "a")), "a")
        self.assertEqual(show_play(played(line_web("abc"), ["a", "b", "c"])), "a > b > c")
        self.assertEqual(show_play(Play(Web(["abcdef"], []), "abcdef")), "abcdef")


class Read(Case):
    def setUp(self):
        self.web = ring_web("abcd")

    def test_what_is_written_is_read_again(self):
        for start in "abcd":
            for row in rows_within(Play(self.web, start), 3):
                play = played(self.web, [start] + row)
                read = read_play(self.web, show_play(play))
                self.assertIsInstance(read, Play)
                self.assertEqual(read.gone(), play.gone())
                self.assertEqual((read.position(), read.loser()), (play.position(), play.loser()))
        web = line_web(FOURTEEN)
        self.assertEqual(read_play(web, " > ".join(FOURTEEN)).gone(), FOURTEEN)

    def test_what_was_read_goes_on(self):
        play = read_play(self.web, "a > b")
        play.go("c")
        self.assertEqual((play.back(), play.back()), ("c", "b"))

    def refuses_at(self, at, text):
        self.refuses_with(NoText, at, read_play, self.web, text)

    def test_what_is_no_text(self):
        for thing in other_things(str) + [["a"], ("a", "b")]:
            self.refuses_at(0, thing)

    def test_no_start(self):
        texts = [thing for thing in things() if isinstance(thing, str) and thing != "a > b"]
        for text in texts + ["q", "a>b", "a >b", "a> b", "a b", "a  > b", " a > b", "> a", " > a", "a >", "A > b"]:
            self.refuses_at(0, text)
        self.refuses_with(NoText, 0, read_play, Web([], []), "a")

    def test_the_first_word_that_is_no_move(self):
        for word in ("", " ", "a", "c", "q", "B", "b ", " b", "b\n", "> b", "b>c", ">"):
            self.refuses_at(1, "a > " + word + " > q")
        self.refuses_at(1, "a > ")
        self.refuses_at(1, "a > > b")
        self.refuses_at(1, "a >  > b")
        self.refuses_at(1, "a > b >")
        self.refuses_at(2, "a > b > ")
        self.refuses_at(2, "a > b > > c")
        self.refuses_at(2, "a > b > a > q")
        self.refuses_at(3, "a > b > c > a")
        self.refuses_at(4, "a > b > c > d > a")


if __name__ == "__main__":
    unittest.main()
