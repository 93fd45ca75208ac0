"""[5], [6], [122], [123], [124], [125], [126], [127]: a desk, its lines, deeds, undo and redo, questions, many lines."""

import unittest

from helper import FOURTEEN, Case, copied, full_ties, is_two_sided, line_web, mixed, mixed_webs, ring_web, things
from helper import two_sided_webs
from onceroad.bars import paper_of
from onceroad.desk import Desk
from onceroad.errors import NoBack, NoLine, NoMove, NoName, NoNumbers, NoPlace, NoText, NoTie, Odd, OnceError, TooMany
from onceroad.errors import Twice
from onceroad.evens import good_ties, told_set
from onceroad.eveners import Keen
from onceroad.greatest import count_of
from onceroad.matches import match
from onceroad.players import Best, Farthest, Nearest
from onceroad.plays import Play, all_within, played
from onceroad.playtext import show_play
from onceroad.roads import Road, roads_within
from onceroad.roadtext import show_road
from onceroad.sides import sides_of
from onceroad.sorts import leaving_out, sorts
from onceroad.turning import turning_places
from onceroad.webs import Web
from onceroad.wins import chosen_by, good_moves, of_play, winner
from onceroad.words import names_text, ties_text, web_line

NO_WORDS = ("stop", "back", "undo", "redo", "see", "count", "paper", "sorts", "sides", "moves", "hand", "loser", "wins",
            "left", "best")
NAME_WORDS = ("place", "unplace", "play", "road", "go", "winner", "good", "out", "turns", "set", "ties")
TWO_NAMES = ("tie", "untie")
NUMBER_WORDS = ("chosen", "rows")
OF_GAME = ("go a", "back", "let nearest rule", "moves", "hand", "loser", "rows 0", "rows 9", "wins")
OF_PLAY = ("left", "best")
PLAYERS = ("nearest", "farthest", "rule")

# A ring of three with a line of three places at it, so that a road from the line's end comes to the ring.
LINE_AND_RING = "web a: b c; b: c; c: d; d: e; e:"


def asked(*lines):
    """A desk that was asked these lines, none of which was refused."""
    desk = Desk()
    for line in lines:
        desk.ask(line)
    return desk


def web_deed(web):
    return "web " + web_line(web)


class Forms(Case):
    def desks(self):
        ring = web_deed(ring_web("abcd"))
        return [Desk(), asked(ring), asked(ring, "play a", "go b"), asked(ring, "road a", "go b"),
                asked(ring, "play a", "undo")]

    def no_line(self, thing):
        for desk in self.desks():
            before = desk.ask("see")
            self.refuses(NoLine, thing, desk.ask, thing)
            self.assertEqual(desk.ask("see"), before)

    def test_things_of_every_kind(self):
        for thing in things() + [["see"], ("see",), {"see": "see"}, 0, b"see"]:
            self.no_line(thing)

    def test_other_first_words(self):
        for line in ("", " ", "se", "sees", "See", "SEE", "see;", "-", "a", "websee", "nothing", "place", "0", "seesee"):
            self.no_line(line)

    def test_blanks_and_signs_put_in(self):
        for line in ("see", "place x", "tie a c", "let nearest farthest", "winner a", "chosen 0", "web a: b; b:"):
            for made in (" " + line, line + " ", line + "\n", "\n" + line, line.replace(" ", "  "), line + "\t"):
                if made != line:
                    self.no_line(made)
        for line in ("s ee", "place\nx", "place x\n", "tie a\tc", "tie a-c", "let nearest,farthest"):
            self.no_line(line)

    def test_more_or_fewer_words(self):
        for word in NO_WORDS:
            for line in (word + " a", word + " 0", word + " a b", word + " " + word, word + " nearest farthest"):
                self.no_line(line)
        for word in NAME_WORDS:
            for line in (word, word + " a b", word + " a a", word + " a b c"):
                self.no_line(line)
        for word in TWO_NAMES:
            for line in (word, word + " a", word + " a b c", word + " a c c"):
                self.no_line(line)
        for word in NUMBER_WORDS:
            for line in (word, word + " 0 0", word + " 1 2 3"):
                self.no_line(line)
        for line in ("web", "let", "let rule", "let rule rule rule", "let nearest farthest rule"):
            self.no_line(line)

    def test_words_that_are_no_names(self):
        wrong = ("A", "aB", "a1", "1", "0", "abcdefg", "-", "a-b", "a:", "~", "a;", "|", ">")
        for thing in wrong:
            for word in NAME_WORDS:
                self.no_line(word + " " + thing)
            for word in TWO_NAMES:
                self.no_line(word + " a " + thing)
                self.no_line(word + " " + thing + " a")
                self.no_line(word + " " + thing + " " + thing)

    def test_numbers_that_are_not_plainly_written(self):
        for thing in ("00", "07", "000", "1000", "0000", "9999", "-1", "+1", "-0", "1.", "1_0", "a", "x1", "0x1", "1e1", "~"):
            for word in NUMBER_WORDS:
                self.no_line(word + " " + thing)

    def test_numbers_that_are(self):
        desk = asked(web_deed(ring_web("abcd")), "play a")
        self.assertEqual((desk.ask("chosen 0"), desk.ask("rows 0"), desk.ask("rows 5")), ("1 -", "1", "7"))
        for number in (2, 7, 9, 10, 99, 100, 999):
            self.refuses_with(NoNumbers, number, desk.ask, "chosen " + str(number))
        for number in (6, 10, 70, 999):
            self.refuses_with(NoNumbers, number, desk.ask, "rows " + str(number))

    def test_words_for_players(self):
        for thing in ("a", "best", "keen", "Nearest", "nearer", "far", "rules", "0", "-", "numbered", "nearestrule"):
            for other in PLAYERS:
                self.no_line("let " + thing + " " + other)
                self.no_line("let " + other + " " + thing)

    def test_lines_of_a_game_where_there_is_none(self):
        for desk in (Desk(), asked("place a"), asked("place a", "play a", "stop"), asked("place a", "road a", "place b"),
                     asked("place a", "play a", "undo")):
            before = desk.ask("see")
            for line in OF_GAME + OF_PLAY + ("go q", "rows 999"):
                self.refuses(NoLine, line, desk.ask, line)
            self.assertEqual(desk.ask("see"), before)

    def test_lines_of_a_play_where_the_game_is_a_road(self):
        desk = asked("place a", "place b", "tie a b", "road a")
        for line in OF_PLAY:
            self.refuses(NoLine, line, desk.ask, line)
        desk.ask("play a")
        self.assertEqual((desk.ask("left"), desk.ask("best")), ("b", "b"))

    def test_four_hundred_signs(self):
        desk = asked("place a")
        self.refuses_with(NoText, 0, desk.ask, "web " + "a" * 396)
        line = "web " + "a" * 397
        self.refuses(NoLine, line, desk.ask, line)
        names = ["abcde" + name for name in FOURTEEN]
        great = web_deed(Web(names, full_ties(names, 30)))
        self.assertEqual(desk.ask(great), great[4:] + " | -")
        self.refuses_with(NoText, 13, desk.ask, great + " " + "a" * (399 - len(great)))
        line = great + " " + "a" * (400 - len(great))
        self.refuses(NoLine, line, desk.ask, line)

    def test_play_road_and_stop_ask_of_no_game(self):
        desk = asked("place a")
        self.assertEqual(desk.ask("stop"), "a: | -")
        self.assertEqual(desk.ask("play a"), "a: | play a")
        self.assertEqual(desk.ask("road a"), "a: | road a")
        self.assertEqual(desk.ask("stop"), "a: | -")


class WebDeeds(Case):
    def test_at_first(self):
        self.assertEqual(Desk().ask("see"), "- | -")

    def test_each(self):
        desk = Desk()
        for line, told in (("place b", "b:"), ("place a", "b:; a:"), ("tie a b", "b: a; a:"), ("place c", "b: a; a:; c:"),
                           ("tie c a", "b: a; a: c; c:"), ("untie a b", "b:; a: c; c:"), ("unplace a", "b:; c:"),
                           ("web a: b; b:", "a: b; b:"), ("web -", "-"), ("web abcdef:", "abcdef:")):
            self.assertEqual(desk.ask(line), told + " | -")
            self.assertEqual(desk.ask("see"), told + " | -")

    def test_behind_each_there_is_no_game(self):
        for game in ("play a", "road a"):
            for line in ("web a: b; b:", "web -", "place z", "unplace c", "unplace a", "tie a c", "untie a b"):
                desk = asked(web_deed(ring_web("abcd")), game, "go b")
                self.assertTrue(desk.ask(line).endswith(" | -"))
                self.refuses(NoLine, "moves", desk.ask, "moves")

    def test_refused(self):
        full = web_deed(Web(FOURTEEN, full_ties(FOURTEEN, 30)))
        for lines, kind, value, line in (
                ([], NoText, 0, "web a"), ([], NoText, 1, "web a:; a:"), ([], NoText, 0, "web a: b"),
                ([], NoText, 0, "web - -"), ([], NoText, 0, "web -;"), ([], NoText, 0, "web a: b;b:"),
                (["place a"], Twice, "a", "place a"), ([full], Twice, "n", "place n"), ([full], TooMany, 15, "place o"),
                ([], NoPlace, "a", "unplace a"), (["place a"], NoPlace, "b", "unplace b"),
                (["place a"], NoPlace, "b", "tie b c"), (["place a"], NoPlace, "c", "tie a c"),
                (["place a"], NoTie, ("a", "a"), "tie a a"), (["web a: b; b:"], NoTie, ("b", "a"), "tie b a"),
                ([full], NoTie, ("a", "b"), "tie a b"), ([full], TooMany, 31, "tie m n"),
                (["place a"], NoPlace, "b", "untie b c"), (["place a"], NoPlace, "c", "untie a c"),
                (["web a:; b:"], NoTie, ("b", "a"), "untie b a"), (["place a"], NoTie, ("a", "a"), "untie a a")):
            desk = asked(*lines)
            before = desk.ask("see")
            self.refuses_with(kind, value, desk.ask, line)
            self.assertEqual(desk.ask("see"), before)

    def test_what_is_refused_leaves_the_game(self):
        desk = asked(web_deed(ring_web("abc")), "road a", "go b")
        for line in ("place a", "web q", "unplace q", "tie a b", "untie a a", "play q", "road q"):
            self.assertRaises(OnceError, desk.ask, line)
            self.assertEqual(desk.ask("see"), "a: b c; b: c; c: | road a > b")


class GameDeeds(Case):
    def test_plays(self):
        desk = asked(web_deed(ring_web("abcd")))
        web = desk.ask("see")[:-1]
        for line, told in (("play a", "play a"), ("go b", "play a > b"), ("go c", "play a > b > c"), ("back", "play a > b"),
                           ("back", "play a"), ("go d", "play a > d"), ("play c", "play c"), ("road d", "road d"),
                           ("stop", "-"), ("stop", "-"), ("play b", "play b")):
            self.assertEqual(desk.ask(line), web + told)

    def test_roads(self):
        desk = asked(web_deed(ring_web("abc")))
        web = desk.ask("see")[:-1]
        for line, told in (("road a", "road a"), ("go b", "road a > b"), ("go c", "road a > b > c"),
                           ("go a", "road a > b > c > a"), ("back", "road a > b > c"), ("play a", "play a")):
            self.assertEqual(desk.ask(line), web + told)

    def test_refused(self):
        for game in ("play", "road"):
            desk = asked(web_deed(line_web("abc")))
            self.refuses_with(NoPlace, "q", desk.ask, game + " q")
            desk.ask(game + " a")
            self.caught(NoBack, desk.ask, ("back",))
            for name in ("a", "c", "q"):
                self.refuses_with(NoMove, name, desk.ask, "go " + name)
            desk.ask("go b")
            self.refuses_with(NoMove, "a", desk.ask, "go a")
            self.refuses_with(NoPlace, "q", desk.ask, "road q")
            self.assertEqual(desk.ask("see"), "a: b; b: c; c: | " + game + " a > b")
        self.refuses_with(NoPlace, "a", Desk().ask, "play a")
        self.refuses_with(NoPlace, "a", Desk().ask, "road a")

    def player(self, word, rule):
        return {"nearest": Nearest(), "farthest": Farthest(), "rule": rule}[word]

    def test_let_in_plays(self):
        for web in mixed_webs(4, 7, 9) + mixed_webs(2, 14, 30):
            for one in PLAYERS:
                for other in PLAYERS:
                    for moves in ([], web.beside("a")[:1]):
                        play = played(web, ["a"] + moves)
                        desk = asked(web_deed(web), "play a", *["go " + move for move in moves])
                        match(play, self.player(one, Best()), self.player(other, Best()))
                        told = web_line(web) + " | play " + show_play(play)
                        self.assertEqual(desk.ask("let " + one + " " + other), told)
                        self.assertEqual(desk.ask("loser"), str(play.loser()))

    def test_let_on_roads(self):
        for web in two_sided_webs(4, 7, 9) + two_sided_webs(2, 14, 30):
            for one in PLAYERS:
                for other in PLAYERS:
                    road = Road(web, "b")
                    desk = asked(web_deed(web), "road b")
                    match(road, self.player(one, Keen()), self.player(other, Keen()))
                    told = web_line(web) + " | road " + show_road(road)
                    self.assertEqual(desk.ask("let " + one + " " + other), told)
                    self.assertEqual(desk.ask("let rule rule"), told)

    def test_let_that_is_refused_in_its_midst(self):
        for lines, line, move in ((["road e"], "let nearest rule", "d"), (["road e"], "let rule nearest", "d"),
                                  (["road e", "go d"], "let rule nearest", "c"), (["road e", "go d"], "let nearest rule", "c"),
                                  (["road e", "go d", "go c"], "let rule nearest", "a b")):
            desk = asked(LINE_AND_RING, *lines)
            before = desk.ask("see")
            self.assertEqual(sorted(self.caught(Odd, desk.ask, (line,)).ring), ["a", "b", "c"])
            self.assertEqual((desk.ask("see"), desk.ask("moves")), (before, move))

    def test_let_where_the_ring_is_broken_ahead_of_keen(self):
        desk = asked(LINE_AND_RING, "road e", "go d", "go c")
        self.assertEqual(desk.ask("let nearest rule").partition(" | ")[2], "road e > d > c > a > b > c")
        desk = asked(LINE_AND_RING, "road e")
        self.assertEqual(desk.ask("let farthest nearest").partition(" | ")[2], "road e > d > c > b > a > c")

    def test_let_where_keen_is_not_asked(self):
        desk = asked("web a: b c; b: c; c:; d: e; e:", "road d", "go e")
        before = desk.ask("see")
        self.assertEqual(desk.ask("let rule rule"), before)
        desk = asked("web a: b c; b: c; c:; d:", "road d")
        self.assertEqual(desk.ask("let rule rule"), "a: b c; b: c; c:; d: | road d")
        desk.ask("play a")
        self.assertEqual(desk.ask("let rule rule").partition(" | ")[2][:6], "play a")


class Undoing(Case):
    def test_nothing_to_take_back_or_to_do_again(self):
        desk = Desk()
        self.assertEqual((desk.ask("undo"), desk.ask("redo"), desk.ask("see")), ("none", "none", "- | -"))
        desk.ask("place a")
        self.assertEqual((desk.ask("redo"), desk.ask("undo"), desk.ask("undo")), ("none", "- | -", "none"))
        self.assertEqual((desk.ask("redo"), desk.ask("redo"), desk.ask("see")), ("a: | -", "none", "a: | -"))

    def test_each_deed(self):
        lines = ["web a: b d; b: c; c: d; d:", "place e", "tie e a", "untie a b", "unplace d", "play a", "go e", "back", "stop",
                 "road b", "go c", "let nearest rule", "road c", "play e", "let rule farthest", "web -"]
        desk = Desk()
        seen = [desk.ask("see")]
        for line in lines:
            seen.append(desk.ask(line))
            self.assertEqual(desk.ask("see"), seen[-1])
        for _ in range(2):
            for told in seen[-2::-1]:
                self.assertEqual((desk.ask("undo"), desk.ask("see")), (told, told))
            self.assertEqual(desk.ask("undo"), "none")
            for told in seen[1:]:
                self.assertEqual((desk.ask("redo"), desk.ask("see")), (told, told))
            self.assertEqual(desk.ask("redo"), "none")

    def test_redo_behind_another_deed(self):
        desk = asked("place a", "place b", "undo")
        self.assertEqual(desk.ask("place c"), "a:; c: | -")
        self.assertEqual(desk.ask("redo"), "none")
        self.assertEqual([desk.ask("undo") for _ in range(3)], ["a: | -", "- | -", "none"])

    def test_redo_behind_questions_and_what_is_refused(self):
        desk = asked("place a", "play a", "undo")
        for line in ("see", "count", "winner a"):
            desk.ask(line)
        for line in ("place a", "go a", "unplace q", "see see"):
            self.assertRaises(OnceError, desk.ask, line)
        self.assertEqual(desk.ask("redo"), "a: | play a")

    def test_deeds_that_left_all_as_it_was(self):
        desk = asked("place a", "play a", "undo")
        self.assertEqual(desk.ask("stop"), "a: | -")
        self.assertEqual(desk.ask("redo"), "none")
        self.assertEqual((desk.ask("undo"), desk.ask("undo"), desk.ask("undo")), ("a: | -", "- | -", "none"))
        desk = asked("web a:", "road a", "let rule rule", "road a", "web a:", "web a:")
        told = ["a: | -", "a: | road a", "a: | road a", "a: | road a", "a: | -", "- | -", "none"]
        self.assertEqual([desk.ask("undo") for _ in range(7)], told)

    def test_what_is_refused_is_no_deed(self):
        desk = asked(LINE_AND_RING, "road e", "go d", "undo")
        self.caught(Odd, desk.ask, ("let nearest rule",))
        self.assertEqual(desk.ask("redo").partition(" | ")[2], "road e > d")
        self.caught(Odd, desk.ask, ("let nearest rule",))
        self.assertEqual(desk.ask("undo").partition(" | ")[2], "road e")
        self.assertEqual(desk.ask("undo").partition(" | ")[2], "-")

    def test_a_game_that_goes_on_behind_undo(self):
        desk = asked("web a: b; b: c; c:", "play a", "go b", "go c", "undo", "undo")
        self.assertEqual((desk.ask("moves"), desk.ask("hand"), desk.ask("left")), ("b", "0", "b c"))
        self.assertEqual(desk.ask("go b"), "a: b; b: c; c: | play a > b")
        self.assertEqual(desk.ask("back"), "a: b; b: c; c: | play a")
        self.assertEqual([desk.ask("undo")[-5:] for _ in range(2)], ["a > b", "lay a"])
        self.assertEqual([desk.ask("redo")[-5:] for _ in range(2)], ["a > b", "lay a"])

    def test_mixed_lines_against_all_that_was_seen(self):
        lines = ["web a: b c; b: d; c: d; d:", "place e", "unplace b", "tie a d", "untie a c", "play a", "road a", "stop", "go b",
                 "go c", "go d", "back", "let nearest rule", "let rule farthest", "undo", "undo", "undo", "redo", "redo",
                 "place e", "tie e a", "play e", "road c"]
        for turn in range(20):
            desk, past, ahead, doubles = Desk(), ["- | -"], [], 0
            for line in mixed(lines * 4, turn):
                if line == "undo":
                    told = "none" if len(past) == 1 else past[-2]
                    ahead += [past.pop()] if len(past) > 1 else []
                elif line == "redo":
                    told = ahead[-1] if ahead else "none"
                    past += [ahead.pop()] if ahead else []
                else:
                    told = desk.run([line])[0]
                    if " | " in told:
                        past.append(told)
                        ahead = []
                    doubles += 1
                    self.assertEqual(desk.ask("see"), past[-1])
                    continue
                self.assertEqual(desk.ask(line), told)
                self.assertEqual(desk.ask("see"), past[-1])
            self.assertEqual(doubles, 4 * (len(lines) - 5))


def told_of_web(web, line):
    """What a desk has to answer to a question of the web, by what the other modules tell."""
    word, _, name = line.partition(" ")
    if word == "count":
        return str(count_of(web))
    if word == "paper":
        pairs, bar = paper_of(web)
        return ties_text(pairs) + " | " + names_text(bar)
    if word == "sorts":
        return " ".join(place + ":" + sorts(web)[place] for place in web.places()) or "-"
    if word == "sides":
        return " | ".join(names_text(side) for side in sides_of(web))
    if word == "chosen":
        hand, start, _ = chosen_by(web, int(name))
        return str(hand) + " " + (start or "-")
    if word == "out":
        pairs = leaving_out(web, name)
        return "none" if pairs is None else ties_text(pairs)
    if word == "set":
        return told_set(web, name)[0] + " " + names_text(told_set(web, name)[1])
    if word == "winner":
        return str(winner(web, name))
    return names_text({"good": good_moves, "turns": turning_places, "ties": good_ties}[word](web, name))


def told_of_game(game, line):
    """What a desk has to answer to a question of a game."""
    word, _, number = line.partition(" ")
    is_play = isinstance(game, Play)
    if word == "rows":
        return str((all_within if is_play else roads_within)(game, int(number)))
    if word == "wins":
        if is_play:
            return str(of_play(game)[0])
        lost = told_set(game.web_left(), game.stands_at())[0] == "lost"
        return str(1 - game.hand() if lost else game.hand())
    if word == "loser":
        return "none" if game.loser() is None else str(game.loser())
    if word == "hand":
        return str(game.hand())
    return names_text({"moves": game.moves, "left": getattr(game, "left", None), "best": lambda: of_play(game)[1]}[word]())


class Questions(Case):
    def looks_at(self, desk, line, tell, subject):
        before = desk.ask("see")
        try:
            told = tell(subject, line)
        except Odd as refusal:
            self.refuses_with(Odd, refusal.ring, desk.ask, line)
        else:
            self.assertEqual(desk.ask(line), told, line)
            self.assertEqual(desk.ask(line), told)
        self.assertEqual(desk.ask("see"), before)

    def test_of_the_web(self):
        webs = mixed_webs(6, 6, 7) + two_sided_webs(6, 7, 9) + mixed_webs(1, 14, 30) + two_sided_webs(1, 14, 30)
        for web in webs + [Web([], []), Web(["a"], []), Web(list("ba"), []), line_web("cab"), ring_web("abc")]:
            desk = asked(web_deed(web))
            for line in ("count", "paper", "sorts", "sides", "chosen 0", "chosen 1"):
                self.looks_at(desk, line, told_of_web, web)
            for place in web.places():
                for word in ("winner", "good", "out", "turns", "set", "ties"):
                    self.looks_at(desk, word + " " + place, told_of_web, web)

    def test_of_plays(self):
        for web in mixed_webs(4, 6, 8) + mixed_webs(1, 14, 20):
            desk, play = asked(web_deed(web), "play a"), Play(web, "a")
            while True:
                for line in ["moves", "hand", "loser", "wins", "left", "best"] + ["rows " + str(many) for many in range(6)]:
                    self.looks_at(desk, line, told_of_game, play)
                if play.ended():
                    break
                desk.ask("go " + play.moves()[-1])
                play.go(play.moves()[-1])

    def test_of_roads(self):
        for web in mixed_webs(3, 6, 8) + two_sided_webs(4, 7, 9) + two_sided_webs(1, 14, 20):
            desk, road = asked(web_deed(web), "road a"), Road(web, "a")
            while True:
                for line in ["moves", "hand", "loser", "wins"] + ["rows " + str(many) for many in range(5)]:
                    self.looks_at(desk, line, told_of_game, road)
                if road.ended():
                    break
                desk.ask("go " + road.moves()[0])
                road.go(road.moves()[0])

    def test_the_web_without_places(self):
        told = {"see": "- | -", "count": "0", "paper": "- | -", "sorts": "-", "sides": "- | -", "chosen 0": "1 -",
                "chosen 1": "0 -"}
        for line in told:
            self.assertEqual(Desk().ask(line), told[line])

    def test_some(self):
        desk = asked("web a: b c; b:; c:; d:")
        told = {"count": "1", "sorts": "a:held b:loose c:loose d:loose", "winner a": "0", "winner d": "1", "good a": "b c",
                "good b": "-", "chosen 1": "1 b", "out a": "none", "out b": "a-c", "turns b": "c", "sides": "a d | b c",
                "set d": "lost d", "set b": "lost b c", "ties a": "b c", "ties b": "-", "paper": "a-b | a"}
        for line in told:
            self.assertEqual(desk.ask(line), told[line], line)
        self.assertEqual(asked("place a").ask("out a"), "-")
        desk.ask("play b")
        told = {"moves": "a", "hand": "0", "loser": "none", "rows 0": "1", "rows 5": "3", "wins": "1", "left": "a c d", "best": "-"}
        for line in told:
            self.assertEqual(desk.ask(line), told[line], line)
        desk.ask("let rule rule")
        told = {"moves": "-", "hand": "0", "loser": "0", "rows 3": "1", "wins": "1", "left": "d", "best": "-"}
        for line in told:
            self.assertEqual(desk.ask(line), told[line], line)

    def test_refused(self):
        desk = asked("web a: b c; b: c; c:; d:")
        for word in ("winner", "good", "out", "turns", "set", "ties"):
            self.refuses_with(NoPlace, "q", desk.ask, word + " q")
            self.refuses_with(NoPlace, "a", Desk().ask, word + " a")
        for line in ("sides", "set a", "set d", "ties a", "ties d"):
            self.assertEqual(sorted(self.caught(Odd, desk.ask, (line,)).ring), ["a", "b", "c"])
        for number in (2, 3, 10, 999):
            self.refuses_with(NoNumbers, number, desk.ask, "chosen " + str(number))
        desk.ask("road d")
        self.assertEqual(sorted(self.caught(Odd, desk.ask, ("wins",)).ring), ["a", "b", "c"])
        for number in (5, 6, 999):
            self.refuses_with(NoNumbers, number, desk.ask, "rows " + str(number))
        desk.ask("play d")
        self.assertEqual((desk.ask("wins"), desk.ask("rows 5")), ("1", "1"))
        self.refuses_with(NoNumbers, 6, desk.ask, "rows 6")

    def test_wins_where_the_ring_was_broken(self):
        desk = asked(web_deed(ring_web("abc")), "road a")
        self.caught(Odd, desk.ask, ("wins",))
        desk.ask("go b")
        self.assertEqual(desk.ask("wins"), "0")

    def test_questions_change_nothing(self):
        desk = asked("web a: b; b: c; c:", "play a", "go b", "go c", "undo")
        for line in ("see", "count", "paper", "sorts", "winner a", "good b", "chosen 0", "out a", "turns a", "sides", "set a",
                     "ties b", "moves", "hand", "loser", "rows 3", "wins", "left", "best"):
            desk.ask(line)
        self.assertEqual(desk.ask("see"), "a: b; b: c; c: | play a > b")
        self.assertEqual(desk.ask("redo"), "a: b; b: c; c: | play a > b > c")
        self.assertEqual(desk.ask("undo"), "a: b; b: c; c: | play a > b")
        self.assertEqual(desk.ask("undo"), "a: b; b: c; c: | play a")


class ManyLines(Case):
    def test_no_lines(self):
        self.assertEqual(Desk().run([]), [])

    def test_with_refused_ones_among_them(self):
        lines = ["see", "place a", "place a", "place b", "go a", "tie a a", "tie a q", "tie b a", "web q", "undo", "redo", "play a",
                 "back", "go a", "go b", "back", "rows 9", None, 7, ["see"], "SEE", "place c", "tie a c", "tie b c", "sides",
                 "road a", "let rule rule", "wins", "let nearest rule", "loser", "chosen 2", "stop", "redo"]
        told = ["- | -", "a: | -", "twice", "a:; b: | -", "no line", "no tie", "no place", "a: b; b: | -", "no text",
                "a:; b: | -", "a: b; b: | -", "a: b; b: | play a", "no back", "no move", "a: b; b: | play a > b",
                "a: b; b: | play a", "no numbers", "no line", "no line", "no line", "no line", "a: b; b:; c: | -",
                "a: b c; b:; c: | -", "a: b c; b: c; c: | -", "odd", "a: b c; b: c; c: | road a", "odd", "odd",
                "a: b c; b: c; c: | road a > b > c > a", "1", "no numbers", "a: b c; b: c; c: | -", "none"]
        desk = Desk()
        before = copied(lines)
        answers = desk.run(lines)
        self.assertEqual((answers, type(answers)), (told, list))
        self.assertEqual(lines, before)
        self.assertEqual(desk.ask("undo"), "a: b c; b: c; c: | road a > b > c > a")

    def test_sixty_lines(self):
        lines = ["place a", "undo"] * 30
        self.assertEqual(Desk().run(lines), ["a: | -", "- | -"] * 30)
        full = ["place " + name for name in FOURTEEN + ["o"]]
        full += ["tie " + one + " " + other for one, other in full_ties(FOURTEEN, 31)]
        told = Desk().run(full + ["see"] * 14)
        self.assertEqual((len(told), told[14], told[45], told[13] == told[14]), (60, "too many", "too many", False))
        self.assertEqual(told[46], web_line(Web(FOURTEEN, full_ties(FOURTEEN, 30))) + " | -")

    def test_things_of_every_kind(self):
        found = things()
        for at in range(0, len(found), 60):
            lines = found[at:at + 60]
            self.assertEqual(Desk().run(lines), ["no line"] * len(lines))
            self.keeps(Desk().run, lines)

    def test_one_after_the_other_as_they_are_asked(self):
        lines = mixed(["place a", "place b", "place c", "tie a b", "tie b c", "untie a b", "road a", "play b", "go b", "go c", "back",
                       "let rule nearest", "undo", "redo", "sorts", "wins", "moves", "stop", "unplace a", "paper"] * 3, 4)
        one, other = Desk(), Desk()
        told = one.run(lines)
        self.assertEqual([other.run([line])[0] for line in lines], told)
        self.assertEqual(Desk().run(lines[:30]) + [], told[:30])
        for text in told:
            self.assertIs(type(text), str)

    def test_the_word_for_each_refusal(self):
        words = {NoLine: "no line", NoName: "no name", Twice: "twice", NoPlace: "no place", NoTie: "no tie",
                 TooMany: "too many", NoText: "no text", NoMove: "no move", Odd: "odd", NoNumbers: "no numbers"}

        class Refusing(Desk):
            def ask(self, line):
                raise NoBack() if line is NoBack else line(None)

        self.assertEqual(Refusing().run(list(words) + [NoBack]), list(words.values()) + ["no back"])

    def test_lists_are_new(self):
        desk = asked("place a")
        desk.run(["see"]).clear()
        self.assertEqual(desk.run(["see"]), ["a: | -"])


class Apart(Case):
    def test_two_desks(self):
        one, other = asked("place a", "play a"), Desk()
        self.assertEqual((other.ask("see"), other.ask("undo")), ("- | -", "none"))
        other.ask("place b")
        self.assertEqual((one.ask("see"), one.ask("undo")), ("a: | play a", "a: | -"))

    def test_the_same_lines_have_the_same_answers(self):
        for web in mixed_webs(2, 12, 18) + two_sided_webs(2, 12, 18):
            lines = [web_deed(web), "paper", "out a", "set a", "play a", "let rule farthest", "road b", "let rule nearest", "see"]
            self.assertEqual(Desk().run(lines), Desk().run(lines))
            self.assertEqual("odd" in Desk().run(lines), not is_two_sided(web))


if __name__ == "__main__":
    unittest.main()
