"""[5], [6], [84], [85], [86], [87]: matches, plays that are led, and all answers to a player."""

import unittest

from helper import FOURTEEN, Case, all_plays, all_told, all_webs, full_ties, greatest_by_trying, line_web, mixed_webs
from helper import other_things, ring_web, road_told, things, told_webs, ways_to_go, went
from onceroad.errors import NoMove, NoNumbers, NoPlace, NoPlayer, Odd, TooMany
from onceroad.matches import all_answers, led, match
from onceroad.pairs import partner_of
from onceroad.players import Best, By, Farthest, Nearest, Numbered, Partner, Player
from onceroad.plays import Play, played
from onceroad.roads import Road
from onceroad.webs import Web
from onceroad.wins import of_play, start_paper, winner

NO_HANDS = [True, False, 2, -1, None, "0", [0], (1,), 10 ** 39, {}]


def never(moves):
    raise AssertionError("a player is asked that should not be")


class Loop:
    """A road of three ties round a ring, which tells what is asked of roads in matches, and nothing else."""

    def __init__(self):
        self.names = ["a"]

    def gone(self):
        return list(self.names)

    def left(self):
        raise AssertionError("a road does not tell this")

    def moves(self):
        gone = [frozenset(tie) for tie in zip(self.names, self.names[1:])]
        return [name for name in "abc" if name != self.names[-1] and frozenset((name, self.names[-1])) not in gone]

    def hand(self):
        return (len(self.names) - 1) % 2

    def ended(self):
        return not self.moves()

    def loser(self):
        return self.hand() if self.ended() else None

    def go(self, name):
        if name not in self.moves():
            raise NoMove(name)
        self.names.append(name)


class Matches(Case):
    def test_to_the_end(self):
        play = Play(line_web("abcd"), "b")
        self.assertEqual(match(play, Nearest(), Farthest()), 0)
        self.assertEqual((play.gone(), play.ended(), play.loser()), (["b", "a"], True, 1))
        play = Play(line_web("abcd"), "b")
        self.assertEqual(match(play, Farthest(), Nearest()), 1)
        self.assertEqual((play.gone(), play.loser()), (["b", "c", "d"], 0))
        self.assertIs(type(match(Play(ring_web("abc"), "a"), Best(), Best())), int)

    def test_from_the_midst(self):
        play = played(ring_web("abcde"), ["a", "b"])
        self.assertEqual(match(play, Nearest(), By(lambda moves: moves[0])), 1)
        self.assertEqual(play.gone(), list("abcde"))
        self.assertEqual(play.back(), "e")

    def test_whichever_hand_is_to_move_its_player_is_asked(self):
        asked = []
        one = By(lambda moves: asked.append(0) or moves[0])
        other = By(lambda moves: asked.append(1) or moves[-1])
        match(played(line_web("abcdef"), ["a", "b"]), one, other)
        self.assertEqual(asked, [1, 0, 1, 0])

    def test_the_same_player_for_both(self):
        player = Numbered([1, -3, 2])
        web = mixed_webs(1, 14, 30)[0]
        one, other = Play(web, "a"), Play(web, "a")
        self.assertEqual(match(one, player, player), match(other, Numbered([1, -3, 2]), player))
        self.assertEqual(one.gone(), other.gone())

    def test_an_ended_play(self):
        for play, wins in ((Play(Web(["a"], []), "a"), 1), (played(line_web("abc"), ["b", "c"]), 0)):
            before = all_told(play)
            self.assertEqual(match(play, By(never), By(never)), wins)
            self.assertEqual(all_told(play), before)

    def test_no_player(self):
        for thing in other_things(Player):
            play = played(ring_web("abcd"), ["a", "b"])
            before = all_told(play)
            for other in (Nearest(), None, thing, By(never)):
                self.refuses(NoPlayer, thing, match, play, thing, other)
            for one in (Nearest(), By(never)):
                self.refuses(NoPlayer, thing, match, play, one, thing)
            self.assertEqual(all_told(play), before)
            ended = played(line_web("abc"), ["b", "c"])
            self.refuses(NoPlayer, thing, match, ended, thing, thing)
            self.refuses(NoPlayer, thing, match, ended, Nearest(), thing)

    def test_no_move(self):
        for thing in things() + ["a", "q", ["c"]]:
            play = Play(line_web("abcd"), "a")
            self.refuses(NoMove, thing, match, play, Nearest(), By(lambda moves: thing))
            self.assertEqual((play.gone(), play.hand()), (["a", "b"], 1))
            self.refuses(NoMove, thing, match, play, By(never), By(lambda moves: thing))
            self.refuses(NoMove, thing, match, play, By(lambda moves: thing), Nearest())
            self.assertEqual((play.gone(), play.hand()), (["a", "b", "c"], 0))

    def test_a_partner_where_the_token_was(self):
        web = line_web("abc")
        play = Play(web, "a")
        self.refuses_with(NoMove, "a", match, play, Nearest(), Partner(web, [("b", "a")]))
        self.assertEqual(play.gone(), ["a", "b"])
        self.refuses(NoMove, None, match, play, Nearest(), Partner(web, []))

    def test_a_player_that_refuses(self):
        ring = ["a", "b", "c"]

        def odd(moves):
            raise Odd(ring)

        play = Play(line_web("abcd"), "a")
        self.refuses(Odd, ring, match, play, Nearest(), By(odd))
        self.assertEqual(play.gone(), ["a", "b"])

    def test_roads(self):
        for one, other in ((Nearest(), Farthest()), (Numbered([1, 0]), By(lambda moves: moves[0]))):
            road = Loop()
            self.assertEqual(match(road, one, other), 0)
            self.assertEqual(len(road.gone()), 4)
        road = Loop()
        self.refuses(NoMove, None, match, road, Nearest(), By(lambda moves: None))
        self.assertEqual(road.gone(), ["a", "b"])

    def plays_out(self, road, one, other):
        """A match on a road, held against asking by turns, with a plain list of ties."""
        twin = road.twin()
        wins = match(road, one, other)
        while not twin.ended():
            self.assertEqual(twin.hand(), (len(twin.gone()) - 1) % 2)
            twin.go((one, other)[twin.hand()].choose(twin))
        self.assertEqual(road_told(road), road_told(twin))
        self.assertEqual(ways_to_go(road.ties_left(), road.stands_at()), [])
        self.assertEqual(wins, len(road.gone()) % 2)
        self.assertIs(type(wins), int)

    def test_roads_to_their_end(self):
        middle = By(lambda moves: moves[len(moves) // 2])
        players = [Nearest(), Farthest(), Numbered([3, -1, 4, 1, -5, 9, 2]), middle]
        for web in list(all_webs("bdac"))[::7] + mixed_webs(3, 14, 30) + told_webs()[1:9]:
            for start in web.places()[:3]:
                for one in players:
                    for other in players:
                        self.plays_out(Road(web, start), one, other)

    def test_some_roads(self):
        bow = Web(list("abcde"), [("a", "b"), ("b", "c"), ("a", "c"), ("a", "d"), ("d", "e"), ("a", "e")])
        for start, one, other, names in (("a", Nearest(), Nearest(), "abcadea"), ("a", Farthest(), Nearest(), "aedabca"),
                                         ("b", Nearest(), Farthest(), "baedacb"),
                                         ("d", Numbered([0, 5, -1]), Numbered([9, 2]), "daed")):
            road = Road(bow, start)
            match(road, one, other)
            self.assertEqual("".join(road.gone()), names)

    def test_roads_from_the_midst_and_ended_ones(self):
        road = went(ring_web("abcd"), list("ab"))
        self.assertEqual(match(road, By(lambda moves: moves[0]), Nearest()), 1)
        self.assertEqual((road.gone(), road.loser()), (list("abcda"), 0))
        before = road_told(road)
        self.assertEqual(match(road, By(never), By(never)), 1)
        self.assertEqual(road_told(road), before)
        self.assertEqual(match(Road(Web(["a"], []), "a"), By(never), By(never)), 1)

    def test_roads_are_refused_as_plays_are(self):
        for thing in other_things(Player):
            road = went(ring_web("abcd"), list("ab"))
            before = road_told(road)
            self.refuses(NoPlayer, thing, match, road, thing, None)
            self.refuses(NoPlayer, thing, match, road, By(never), thing)
            self.assertEqual(road_told(road), before)
        for thing in things() + ["a", "q", ["c"]]:
            road = Road(line_web("abcd"), "a")
            self.refuses(NoMove, thing, match, road, Nearest(), By(lambda moves: thing))
            self.assertEqual((road.gone(), road.hand()), (["a", "b"], 1))
            self.refuses(NoMove, thing, match, road, By(lambda moves: thing), Farthest())
            self.assertEqual((road.gone(), road.ties_left()), (["a", "b", "c"], [("c", "d")]))

    def test_the_players_of_other_matches_are_the_same(self):
        player = Numbered([2, 5, -1])
        web = mixed_webs(1, 12, 25)[0]
        first = Play(web, "c")
        match(first, player, Nearest())
        match(Play(web, "d"), Farthest(), player)
        again = Play(web, "c")
        match(again, player, Nearest())
        self.assertEqual(first.gone(), again.gone())


class Led(Case):
    def looks_at(self, web, start, numbers):
        play = led(web, start, numbers)
        self.assertIsInstance(play, Play)
        self.assertEqual((play.web().told(), play.gone()[0], play.ended()), (web.told(), start, True))
        hand, pairs, _ = start_paper(web, start)
        self.assertEqual(1 - play.loser(), hand)
        self.assertEqual(hand, winner(web, start))
        follower = Numbered(numbers)
        names = play.gone()
        for many in range(1, len(names)):
            behind = played(web, names[:many])
            told = partner_of(web, pairs, names[many - 1]) if behind.hand() == hand else follower.choose(behind)
            self.assertEqual(names[many], told)

    def test_the_hand_that_wins_goes_to_the_partner(self):
        for web in list(all_webs("bdac")) + told_webs() + mixed_webs(10, 9, 14):
            for start in web.places():
                for numbers in ([0], [-1], [3, -2, 10 ** 39, 1], list(range(-30, 30))):
                    self.looks_at(web, start, numbers)

    def test_some_plays(self):
        self.assertEqual(led(Web(["a"], []), "a", [0]).gone(), ["a"])
        self.assertEqual(led(line_web("abcd"), "b", [5]).gone(), ["b", "a"])
        self.assertEqual(led(line_web("abc"), "a", [5]).gone(), ["a", "b", "c"])
        self.assertEqual(led(line_web(FOURTEEN), "a", [0]).gone(), FOURTEEN)

    def test_refusals_in_their_order(self):
        web = line_web("abc")
        for thing in things() + ["q", ["a"], ("a",)]:
            for numbers in ([1], None, [], (1,)):
                self.refuses(NoPlace, thing, led, web, thing, numbers)
                self.refuses(NoPlace, thing, led, Web([], []), thing, numbers)
        for thing in things() + [[0] * 61, [], (1,), [True], [1, "2"]]:
            self.refuses(NoNumbers, thing, led, web, "a", thing)
            self.refuses(NoNumbers, thing, led, Web(["a"], []), "a", thing)

    def test_what_is_handed_in_stays(self):
        web = line_web("abc")
        for thing in things() + [[1, 2]]:
            self.keeps(led, web, "a", thing)
            self.keeps(led, web, thing, thing)
        play = led(web, "a", [1])
        play.back()
        self.assertEqual(led(web, "a", [1]).gone(), ["a", "b", "c"])


def ways_by_trying(play, player, hand):
    """All ways, by trying all rows of places; a player told by By is asked with the moves alone."""
    names = play.gone()
    found = []
    for twin in all_plays(play.web(), names[0]):
        row = twin.gone()
        if twin.ended() and row[:len(names)] == names:
            behind = [played(play.web(), row[:many]) for many in range(len(names), len(row))]
            asked = [(one, row[len(one.gone())]) for one in behind if one.hand() == hand]
            if all(player.choose(one) == move for one, move in asked):
                found.append((tuple(row[len(names):]), twin.loser()))
    return sorted(found, key=lambda way: [play.web().number_of(name) for name in way[0]])


class AllAnswers(Case):
    def test_some_ways(self):
        play = Play(line_web("abc"), "b")
        self.assertEqual(all_answers(play, Nearest(), 0), [(("a",), 1)])
        self.assertEqual(all_answers(play, Nearest(), 1), [(("a",), 1), (("c",), 1)])
        web = Web(list("bca"), full_ties("abc", 3))
        self.assertEqual(all_answers(Play(web, "a"), Farthest(), 1), [(("b", "c"), 0), (("c", "b"), 0)])
        told = all_answers(Play(web, "a"), Farthest(), 0)
        self.assertEqual(told, [(("c", "b"), 0)])
        self.assertEqual((type(told), type(told[0]), type(told[0][0]), type(told[0][1])), (list, tuple, tuple, int))

    def test_by_trying(self):
        for web in list(all_webs("bdac"))[::5] + mixed_webs(4, 6, 8):
            players = [Nearest(), Farthest(), Numbered([1, -4, 2]), Best(), By(lambda moves: moves[len(moves) // 2])]
            for player in players:
                for names in (["a"], ["b"]) + tuple(["c", move] for move in web.beside("c")):
                    play = played(web, names)
                    for hand in (0, 1):
                        self.assertEqual(all_answers(play, player, hand), ways_by_trying(play, player, hand))

    def test_ended_plays(self):
        for play, loser in ((Play(Web(["a"], []), "a"), 0), (played(line_web("abc"), ["b", "c"]), 1)):
            for hand in (0, 1):
                self.assertEqual(all_answers(play, By(never), hand), [((), loser)])

    def test_at_a_turn_without_a_move_the_player_is_not_asked(self):
        handed = []
        player = By(lambda moves: handed.append(moves) or moves[0])
        all_answers(Play(line_web("abc"), "a"), player, 0)
        self.assertEqual(handed, [["b"]])

    def test_eight_and_nine_places(self):
        web = line_web(FOURTEEN[:9])
        self.assertEqual(all_answers(Play(web, "a"), Nearest(), 0), [(tuple("bcdefghi"), 0)])
        web = web.with_place("z")
        self.refuses_with(TooMany, 9, all_answers, Play(web, "a"), Nearest(), 0)
        self.assertEqual(all_answers(played(web, ["a", "b"]), Nearest(), 0), [(tuple("cdefghi"), 0)])
        self.refuses_with(TooMany, 9, all_answers, Play(web, "z"), Nearest(), 1)
        self.refuses_with(TooMany, 13, all_answers, Play(line_web(FOURTEEN), "a"), By(never), 1)
        full = Web(FOURTEEN, full_ties("abcdefgh", 28))
        self.assertEqual(len(all_answers(Play(full.without(FOURTEEN[9:]), "a"), Nearest(), 0)), 6 * 4 * 2)
        self.refuses_with(TooMany, 9, all_answers, Play(full.without(FOURTEEN[10:]), "i"), By(never), 0)

    def test_refusals_in_their_order(self):
        big = Play(line_web(FOURTEEN), "a")
        small = Play(line_web("abc"), "a")
        for thing in other_things(Player):
            for play in (big, small, played(line_web("abc"), ["b", "c"])):
                for hand in (0, None, True):
                    self.refuses(NoPlayer, thing, all_answers, play, thing, hand)
        for thing in [thing for thing in things() if isinstance(thing, bool) or thing not in (0, 1)] + NO_HANDS:
            for play in (big, small, played(line_web("abc"), ["b", "c"])):
                self.refuses(NoNumbers, thing, all_answers, play, By(never), thing)
        self.refuses_with(TooMany, 13, all_answers, big, By(lambda moves: None), 0)

    def test_no_move_in_the_first_way(self):
        for thing in things() + ["a", "q", ["b"]]:
            play = Play(Web(list("abcd"), full_ties("abcd", 6)), "a")
            before = all_told(play)
            self.refuses(NoMove, thing, all_answers, play, By(lambda moves: thing), 0)
            self.refuses(NoMove, thing, all_answers, play, By(lambda moves: thing), 1)
            self.assertEqual(all_told(play), before)
        first, second = ["first"], ["second"]
        told = By(lambda moves: first if moves == ["a", "c"] else second)
        web = Web(list("mxyabc"), [("m", "x"), ("m", "y"), ("x", "a"), ("x", "c"), ("y", "b")])
        self.refuses(NoMove, first, all_answers, Play(web, "m"), told, 1)
        later = By(lambda moves: "a" if moves == ["a", "c"] else second)
        self.refuses(NoMove, second, all_answers, Play(web, "m"), later, 1)

    def test_the_play_stays_as_it_is(self):
        play = played(mixed_webs(1, 8, 14)[0], ["a"])
        before = all_told(play)
        told = all_answers(play, Best(), 0)
        self.assertEqual(all_told(play), before)
        told.clear()
        self.assertNotEqual(all_answers(play, Best(), 0), [])
        for thing in things():
            self.keeps(all_answers, play, thing, thing)
            self.keeps(all_answers, play, Nearest(), thing)


class WhatFollows(Case):
    def test_partner_from_the_start_on(self):
        for web in list(all_webs("bdac"))[::3] + mixed_webs(4, 7, 9) + mixed_webs(2, 9, 13):
            for pairs in greatest_by_trying(web)[:6]:
                for start in web.places():
                    hand = winner(web, start)
                    if hand == 0 or not any(start in pair for pair in pairs):
                        ways = all_answers(Play(web, start), Partner(web, pairs), hand)
                        self.assertEqual({loser for _, loser in ways}, {1 - hand})

    def test_best_from_any_play_that_its_hand_wins(self):
        for web in list(all_webs("bdac"))[::5] + mixed_webs(2, 6, 8):
            for start in web.places():
                for play in all_plays(web, start):
                    hand = of_play(play)[0]
                    ways = all_answers(play, Best(), hand)
                    self.assertEqual({loser for _, loser in ways}, {1 - hand})
        for web in mixed_webs(3, 9, 14):
            for start in web.places():
                hand = winner(web, start)
                ways = all_answers(Play(web, start), Best(), hand)
                self.assertEqual({loser for _, loser in ways}, {1 - hand})


if __name__ == "__main__":
    unittest.main()
