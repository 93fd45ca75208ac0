"""[5], [6], [120], [121]: names, ties and webs written in one line, and read; lines and their words."""

import unittest

from helper import FOURTEEN, Case, all_webs, full_ties, line_web, mixed_webs, other_things, things, told_webs
from onceroad.errors import NoLine, NoText
from onceroad.greatest import greatest
from onceroad.names import is_name
from onceroad.webs import Web
from onceroad.webtext import read_web, show_web
from onceroad.words import names_text, read_names, read_ties, read_web_line, ties_text, web_line, words_of

LISTS = [[], ["a"], ["b", "a"], ["a", "a", "a"], ["abcdef", "z", "ab"], FOURTEEN, ["abcdef"] * 60, ["q"] * 61]
TEXTS = [thing for thing in things() if isinstance(thing, str)]


class Names(Case):
    def test_written(self):
        self.assertEqual(names_text([]), "-")
        self.assertEqual(names_text(["a"]), "a")
        self.assertEqual(names_text(["b", "a", "b"]), "b a b")
        self.assertEqual(names_text(["abcdef"] * 60), " ".join(["abcdef"] * 60))

    def test_read_again(self):
        for names in LISTS + [["ab"] * 500]:
            told = read_names(names_text(names))
            self.assertEqual((told, type(told)), (names, list))
            self.assertEqual(names_text(read_names(names_text(names))), names_text(names))

    def test_what_is_no_such_text(self):
        for thing in [thing for thing in things() if not is_name(thing)]:
            self.refuses(NoLine, thing, read_names, thing)
        for text in ("", " ", "--", "- ", " -", "- -", "a -", "- a", "a  b", " a", "a ", "a\n", "a\nb", "A", "a B", "a-b",
                     "abcdefg", "a abcdefg", "a, b", "a;b", "a: b", "1", "a 1", "a b ", "a\n b"):
            self.refuses(NoLine, text, read_names, text)
        for thing in (["a"], ("a", "b"), [], None, 0, {}):
            self.refuses(NoLine, thing, read_names, thing)


class Ties(Case):
    def test_written(self):
        self.assertEqual(ties_text([]), "-")
        self.assertEqual(ties_text([("a", "b")]), "a-b")
        self.assertEqual(ties_text([("a", "b"), ("c", "d")]), "a-b c-d")
        self.assertEqual(ties_text([("c", "a")] * 60), " ".join(["c-a"] * 60))

    def test_read_again(self):
        lists = [[], [("a", "b")], [("b", "a"), ("b", "a")], [("a", "a")], [("abcdef", "z")] * 61, full_ties(FOURTEEN, 91)]
        for ties in lists + [greatest(web) for web in told_webs()]:
            told = read_ties(ties_text(ties))
            self.assertEqual((told, type(told)), (ties, list))
            self.assertTrue(all(type(tie) is tuple for tie in told))

    def test_what_is_no_such_text(self):
        for thing in [thing for thing in things() if thing != "a-b"]:
            self.refuses(NoLine, thing, read_ties, thing)
        for text in ("", " ", "--", "- -", "a", "a-", "-a", "a--b", "a-b-c", "a -b", "a- b", "a - b", "a-b ", " a-b",
                     "a-b  c-d", "a-b c", "a-b -", "- a-b", "A-b", "a-b1", "abcdefg-a", "a-b\n", "a-b\nc-d", "a-b, c-d",
                     "a-b;c-d"):
            self.refuses(NoLine, text, read_ties, text)
        for thing in ([("a", "b")], ("a", "b"), None, 0):
            self.refuses(NoLine, thing, read_ties, thing)


class WebLines(Case):
    def test_written(self):
        self.assertEqual(web_line(Web([], [])), "-")
        self.assertEqual(web_line(Web(["a"], [])), "a:")
        self.assertEqual(web_line(Web(list("abc"), [("b", "a"), ("a", "c")])), "a: b c; b:; c:")

    def test_read_again(self):
        for web in list(all_webs("bdac")) + told_webs() + mixed_webs(10, 9, 14):
            line = web_line(web)
            self.assertEqual(line, show_web(web).replace("\n", "; ") or "-")
            read = read_web_line(line)
            self.assertIsInstance(read, Web)
            self.assertEqual(read.told(), web.told())

    def test_no_text_or_a_line_feed(self):
        texts = ["\n", "a:\nb:", "a: b\nb:", "a:\n", "\na:", "-\n", "a\n", "a:; b:\n"]
        for thing in other_things(str) + texts + [text for text in TEXTS if "\n" in text]:
            self.refuses(NoLine, thing, read_web_line, thing)

    def test_the_text_without_signs(self):
        self.refuses_with(NoText, 0, read_web_line, "")
        self.assertEqual(read_web_line("-").told(), ((), ()))

    def refuses_at(self, at, text):
        self.refuses_with(NoText, at, read_web_line, text)

    def test_refused_as_a_webs_text_is(self):
        for text in ("a", " ", ";", "; ", "- ", " -", "--", "-;", "a; b:", ":", "A:", "a:b", "a:;b:", "; a:", " a:"):
            self.refuses_at(0, text)
        self.refuses_at(1, "a:; ")
        self.refuses_at(1, "a:; b")
        self.refuses_at(1, "a:; a:")
        self.refuses_at(1, "a:;  b:")
        self.refuses_at(1, "a: b; b: a")
        self.refuses_at(1, "a:; b: ; c:")
        self.refuses_at(0, "a: b c ; b:; c:")
        self.refuses_at(0, "a: c b; b:; c:")
        self.refuses_at(0, "a: q; b:")
        self.refuses_at(0, "a: a; b:")
        self.refuses_at(14, "; ".join([name + ":" for name in FOURTEEN + ["o"]]))
        self.refuses_at(2, "a:; c:; ; b:")

    def test_any_text_is_refused_or_read_as_its_lines(self):
        line = "a: b c; b: c; c:; d:"
        made = [line[:at] + sign + line[at:] for at in range(len(line) + 1) for sign in " ;:a-b"]
        made += [line[:at] + line[at + 1:] for at in range(len(line))]
        words = line.split(" ")
        made += [" ".join(words[:at] + words[at + 1:]) for at in range(len(words))]
        made += [" ".join(words[:at] + words[at:at + 1] + words[at:]) for at in range(len(words))]
        for text in made + [text for text in TEXTS if "\n" not in text and text != ""]:
            self.assertEqual(self.outcome(read_web_line, text), self.outcome(read_web, text.replace("; ", "\n")), text)

    def outcome(self, call, text):
        try:
            return call(text).told()
        except NoText as refusal:
            return refusal.at


class Lines(Case):
    def test_words(self):
        for line, words in (("a", ["a"]), ("tie a b", ["tie", "a", "b"]), ("- | > ;", ["-", "|", ">", ";"]),
                            ("~ ! A", ["~", "!", "A"]), ("a: b; b:", ["a:", "b;", "b:"])):
            told = words_of(line)
            self.assertEqual((told, type(told)), (words, list))
            told.clear()
            self.assertEqual(words_of(line), words)
        signs = "".join([chr(number) for number in range(33, 127)])
        self.assertEqual(words_of(signs + " " + signs), [signs, signs])

    def test_what_is_no_line(self):
        lines = ("a", "A", "Ab", "a1", "a-b", "zzzzzzz", "~", ">", "a > b")
        for thing in [thing for thing in things() if thing not in lines]:
            self.refuses(NoLine, thing, words_of, thing)
        for text in ("", " ", "  ", " a", "a ", "a  b", "a b ", " a b", "a   b", "a\n", "\n", "a\nb", "a \n b", "a\tb"):
            self.refuses(NoLine, text, words_of, text)
        for thing in (["a"], ("a", "b"), None, 0, b"a", 7):
            self.refuses(NoLine, thing, words_of, thing)

    def test_signs_beyond_those_of_a_line(self):
        for number in list(range(32)) + [127, 128, 160, 228, 8364]:
            text = "a" + chr(number) + "b"
            self.refuses(NoLine, text, words_of, text)

    def test_four_hundred_signs(self):
        for line in ("a" * 400, "a " * 199 + "aa", "~" * 400):
            self.assertEqual(" ".join(words_of(line)), line)
            self.assertEqual(len(line), 400)
        for line in ("a" * 401, "a " * 200 + "a", "a" * 2000):
            self.refuses(NoLine, line, words_of, line)


class Copies(Case):
    def test_what_is_handed_in_stays(self):
        for names in LISTS:
            self.keeps(names_text, names)
            ties = [(name, name) for name in names]
            self.keeps(ties_text, ties)
        for thing in things():
            for call in (read_names, read_ties, read_web_line, words_of):
                self.keeps(call, thing)
        web = line_web("abc")
        self.assertEqual((web_line(web), web_line(web), web.told()), ("a: b; b: c; c:",) * 2 + (line_web("abc").told(),))

    def test_each_told_list_is_a_new_one(self):
        for call, text in ((read_names, "a b"), (read_names, "-"), (read_ties, "a-b"), (read_ties, "-"), (words_of, "a b")):
            told = call(text)
            kept = list(told)
            told.append("q")
            self.assertEqual(call(text), kept)


if __name__ == "__main__":
    unittest.main()
