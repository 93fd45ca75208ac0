"""[14], [15]: webs written as texts, and read."""

import unittest

from helper import FOURTEEN, Case, all_webs, full_ties, line_web, other_things, ring_web, things
from onceroad.errors import NoText
from onceroad.webs import Web
from onceroad.webtext import read_web, show_web


class Written(Case):
    def test_the_one_of_the_document(self):
        self.assertEqual(show_web(Web(["a", "b", "c"], [("c", "a"), ("b", "a")])), "a: b c\nb:\nc:")

    def test_others(self):
        self.assertEqual(show_web(Web([], [])), "")
        self.assertEqual(show_web(Web(["abcdef"], [])), "abcdef:")
        self.assertEqual(show_web(ring_web("cab")), "c: a b\na: b\nb:")
        self.assertEqual(show_web(Web(["z", "y"], [])), "z:\ny:")


class Read(Case):
    def reads(self, text, told):
        web = read_web(text)
        self.assertIsInstance(web, Web)
        self.assertEqual(web.told(), told)
        self.assertEqual(show_web(web), text)

    def refuses_at(self, at, text):
        self.refuses_with(NoText, at, read_web, text)

    def test_texts(self):
        self.reads("", ((), ()))
        self.reads("a:", (("a",), ()))
        self.reads("a: b c\nb:\nc:", (("a", "b", "c"), (("a", "b"), ("a", "c"))))
        self.reads("c: a b\na: b\nb:", (("c", "a", "b"), (("c", "a"), ("c", "b"), ("a", "b"))))

    def test_what_is_written_is_read_again(self):
        webs = list(all_webs("dacb")) + [line_web(FOURTEEN), ring_web("zyxwv")]
        for web in webs + [Web(FOURTEEN, full_ties(FOURTEEN, 30))]:
            self.assertEqual(read_web(show_web(web)).told(), web.told())

    def test_what_is_no_text(self):
        for thing in other_things(str):
            self.refuses_at(0, thing)

    def test_texts_of_any_kind(self):
        for thing in things():
            if isinstance(thing, str) and thing != "":
                self.refuses_at(0, thing)

    def test_a_line_without_a_colon(self):
        self.refuses_at(0, "a")
        self.refuses_at(1, "a:\nb\nc")
        self.refuses_at(1, "a:\n")
        self.refuses_at(0, "\na:")
        self.refuses_at(1, "a:\n\nb:")

    def test_a_first_word_that_is_no_name(self):
        for word in ("", " ", "A", "a1", "abcdefg", " a", "a ", "a b"):
            self.refuses_at(1, "a:\n" + word + ":\nc:")

    def test_a_first_word_twice(self):
        self.refuses_at(2, "a:\nb:\na:\nb:")
        self.refuses_at(1, "a:\na:")

    def test_line_fourteen(self):
        lines = [name + ":" for name in FOURTEEN]
        self.reads("\n".join(lines), (tuple(FOURTEEN), ()))
        self.refuses_at(14, "\n".join(lines + ["o:"]))
        self.refuses_at(14, "\n".join(lines + ["o:", "p"]))
        self.refuses_at(3, "\n".join(lines[:3] + ["A:"] + lines[4:] + ["o:", "p:"]))

    def test_first_words_of_all_lines_ahead_of_what_stands_behind(self):
        self.refuses_at(2, "a: q\nb:\nc")
        self.refuses_at(14, "\n".join([name + ":b" for name in FOURTEEN] + ["o:"]))
        self.refuses_at(0, "a: q\nb:x\nc:")

    def test_what_stands_behind_the_colon(self):
        for behind in (" ", "c", "  c", " c ", " c  d", " q", " C", " c:", ":", " c,d", " c d e", " cd", " c\td"):
            self.refuses_at(1, "a: b\nb:" + behind + "\nc:\nd:")

    def test_names_behind_lie_farther_below(self):
        self.refuses_at(1, "a:\nb: a\nc:")
        self.refuses_at(1, "a:\nb: b\nc:")
        self.refuses_at(0, "a: c b\nb:\nc:")
        self.refuses_at(0, "a: b b\nb:\nc:")
        self.refuses_at(2, "a: b c\nb: c\nc: c")
        self.refuses_at(0, "a: a")

    def test_the_first_colon_counts(self):
        self.refuses_at(0, "a: b:\nb:")
        self.refuses_at(0, "a::")

    def test_thirty_names_behind_and_more(self):
        names = FOURTEEN[:9]
        lines = [name + ": " + " ".join(names[at + 1:]) for at, name in enumerate(names[:8])]
        # All ties between nine places are 36; with the line 4 they come to 30, with the line 5 to 33.
        text = "\n".join(lines + ["i:"])
        self.refuses_at(5, text)
        thirty = "\n".join(lines[:5] + ["f:", "g:", "h:", "i:"])
        self.assertEqual(len(read_web(thirty).ties()), 30)
        self.refuses_at(7, "\n".join(lines[:5] + ["f:", "g:", "h: i", "i:"]))
        self.refuses_at(3, "\n".join(lines[:3] + ["d: d"] + lines[4:] + ["i:"]))
        self.refuses_at(5, "\n".join(lines[:7] + ["h: a", "i:"]))


if __name__ == "__main__":
    unittest.main()
