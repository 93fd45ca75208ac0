"""[5], [6], [80], [84], [116], [117], [118]: Evener and Keen, roads that are led, all answers on roads."""

import unittest

from helper import FOURTEEN, Case, all_webs, full_ties, great_two_sided_webs, is_two_sided, line_web, mixed_webs
from helper import other_things, ring_web, road_mover_wins, road_told, roads_by_trying, small_two_sided_webs, things
from helper import two_sided_webs, ways_to_go, went
from onceroad.errors import NoMove, NoNumbers, NoPlace, NoPlayer, Odd, TooMany
from onceroad.evens import good_ties, told_set
from onceroad.eveners import Evener, Keen, road_answers, road_led
from onceroad.matches import match
from onceroad.players import Best, By, Farthest, Nearest, Numbered, Partner, Player
from onceroad.plays import Play, played
from onceroad.roads import Road
from onceroad.webs import Web

NO_HANDS = [True, False, 2, -1, None, "0", [0], (1,), 10 ** 39, {}]


def never(moves):
    raise AssertionError("a player is asked that should not be")


class OnlyMoves:
    """What tells its moves, and nothing else."""

    def __init__(self, moves):
        self.ways = moves

    def moves(self):
        return list(self.ways)


class Eveners(Case):
    def test_the_first_move_that_is_one_of_its_names(self):
        web = Web(list("dacb"), full_ties("abcd", 6))
        road = Road(web, "a")
        self.assertEqual(road.moves(), ["d", "c", "b"])
        for names, told in ((["b", "c"], "c"), (("b",), "b"), (["a"], "d"), ([], "d"), ((), "d"), (["zz", "b", "b"], "b"),
                            (["d", "b"], "d")):
            self.assertEqual(Evener(names).choose(road), told)

    def test_where_no_move_is(self):
        for names in ([], ["a"], ["a", "b"]):
            self.assertIsNone(Evener(names).choose(Road(Web(["a"], []), "a")))
            self.assertIsNone(Evener(names).choose(went(line_web("ab"), ["a", "b"])))
            self.assertIsNone(Evener(names).choose(played(line_web("abc"), ["b", "c"])))

    def test_with_plays_and_by_the_moves_alone(self):
        play = played(ring_web("abcd"), ["a"])
        self.assertEqual((Evener(["d"]).choose(play), Evener(["c"]).choose(play)), ("d", "b"))
        self.assertEqual(match(play, Evener(["d"]), Evener([])), 0)
        self.assertEqual(play.gone(), list("adcb"))
        self.assertEqual(Evener(["b", "q"]).choose(OnlyMoves(["c", "q", "b"])), "q")

    def test_on_webs_with_odd_rings(self):
        self.assertEqual(Evener(["c"]).choose(Road(ring_web("abc"), "a")), "c")

    def test_kinds(self):
        self.assertEqual((Evener.__bases__, Keen.__bases__), ((Player,), (Player,)))
        self.assertIsInstance(Evener([]), Player)
        self.assertIsInstance(Keen(), Player)

    def test_no_names(self):
        wrong = [thing for thing in things() if not isinstance(thing, (list, tuple)) or thing not in ([], ())]
        wrong = [thing for thing in wrong if thing not in (["q", "r"], ("q", "r"))]
        for thing in wrong + [["a", "B"], ("a", ""), "a", ["abcdefg"], [["a"]], {"a": 1}, ["a", None], [True], ["a b"]]:
            self.refuses(NoPlayer, thing, Evener, thing)

    def test_the_names_are_kept_as_a_copy(self):
        names = ["c"]
        player = Evener(names)
        names[0] = "b"
        names.append("d")
        self.assertEqual(player.choose(Road(Web(list("abcd"), full_ties("abcd", 6)), "a")), "c")
        self.assertEqual(names, ["b", "d"])
        for thing in things():
            self.keeps(Evener, thing)

    def test_choosing_changes_nothing(self):
        for player in (Evener(["b"]), Keen()):
            for names in ("a", "ab", "abc", "abcda"):
                road = went(ring_web("abcd"), list(names))
                before = road_told(road)
                told = player.choose(road)
                self.assertEqual((player.choose(road), player.choose(road.twin())), (told, told))
                self.assertEqual(road_told(road), before)


class Keens(Case):
    def test_the_first_good_move_in_the_web_that_is_left(self):
        for web in small_two_sided_webs()[::2]:
            for start in web.places():
                for row in roads_by_trying(web.ties(), start, 4):
                    road = went(web, [start] + row)
                    told = (good_ties(road.web_left(), road.stands_at()) + road.moves() + [None])[0]
                    self.assertEqual(Keen().choose(road), told)

    def test_some(self):
        self.assertEqual(Keen().choose(Road(line_web("abcd"), "c")), "d")
        self.assertEqual(Keen().choose(Road(line_web("abc"), "a")), "b")
        self.assertIsNone(Keen().choose(Road(Web(["a"], []), "a")))
        self.assertIsNone(Keen().choose(went(ring_web("abcd"), list("abcda"))))

    def test_an_odd_ring_that_is_left(self):
        web = Web(list("abcde"), full_ties("abc", 3) + [("d", "e")])
        for road in (Road(web, "a"), Road(web, "d"), went(web, ["d", "e"])):
            ring = self.caught(Odd, Keen().choose, (road,)).ring
            self.assertEqual((type(ring), sorted(ring)), (list, ["a", "b", "c"]))
        self.assertTrue(went(web, ["d", "e"]).ended())

    def test_an_odd_ring_that_was_broken(self):
        road = went(ring_web("abc"), ["a", "b"])
        self.assertEqual(Keen().choose(road), "c")
        road = went(ring_web("abc"), list("abca"))
        self.assertIsNone(Keen().choose(road))

    def test_matches_that_are_refused(self):
        web = Web(list("abcdefg"), full_ties("abc", 3) + [("d", "e"), ("e", "f"), ("f", "g")])
        for one, other, names in ((Keen(), Nearest(), "d"), (Nearest(), Keen(), "de"), (Keen(), By(never), "d")):
            road = Road(web, "d")
            self.assertEqual(sorted(self.caught(Odd, match, (road, one, other)).ring), ["a", "b", "c"])
            self.assertEqual(road.gone(), list(names))
        road = went(web, list("defg"))
        self.assertEqual(match(road, Keen(), Keen()), 0)
        road = Road(ring_web("abc"), "a")
        self.assertEqual(match(road, Nearest(), Keen()), 0)
        self.assertEqual(road.gone(), list("abca"))

    def test_matches(self):
        for web in small_two_sided_webs() + great_two_sided_webs():
            for start in web.places():
                wins = 0 if told_set(web, start)[0] == "won" else 1
                for other in (Nearest(), Farthest(), Numbered([2, -5, 1]), Keen()):
                    players = (Keen(), other) if wins == 0 else (other, Keen())
                    self.assertEqual(match(Road(web, start), *players), wins)


class RoadsLed(Case):
    def looks_at(self, web, start, numbers):
        road = road_led(web, start, numbers)
        word, names = told_set(web, start)
        self.assertIsInstance(road, Road)
        self.assertEqual((road.web().told(), road.gone()[0], road.ended()), (web.told(), start, True))
        self.assertEqual(road.loser(), 0 if word == "lost" else 1)
        leader, gone = 1 - road.loser(), road.gone()
        for many in range(1, len(gone)):
            behind = went(web, gone[:many])
            player = Evener(names) if behind.hand() == leader else Numbered(numbers)
            self.assertEqual(gone[many], player.choose(behind))
            if behind.hand() == leader:
                self.assertIn(gone[many], names)

    def test_to_their_end(self):
        for web in small_two_sided_webs() + great_two_sided_webs():
            for start in web.places():
                for numbers in ([0], [-1], [3, -2, 10 ** 39, 1], list(range(-30, 30))):
                    self.looks_at(web, start, numbers)

    def test_some(self):
        self.assertEqual(road_led(Web(["a"], []), "a", [5]).gone(), ["a"])
        self.assertEqual(road_led(line_web("abcd"), "b", [0]).gone(), ["b", "a"])
        self.assertEqual(road_led(ring_web("abcd"), "a", [1]).gone(), list("adcba"))
        self.assertEqual(road_led(ring_web("abcd"), "a", [0]).gone(), list("abcda"))

    def test_refusals_in_their_order(self):
        for thing in things() + ["q", ["a"]]:
            for numbers in ([1], None, [], (1,)):
                self.refuses(NoPlace, thing, road_led, line_web("abc"), thing, numbers)
                self.refuses(NoPlace, thing, road_led, ring_web("abc"), thing, numbers)
                self.refuses(NoPlace, thing, road_led, Web([], []), thing, numbers)
        for numbers in ([1], None, [], (1,)):
            self.caught(Odd, road_led, (ring_web("abc"), "a", numbers))
            self.caught(Odd, road_led, (Web(list("dabc"), full_ties("abc", 3)), "d", numbers))
        for thing in things() + [[0] * 61, [], (1,), [True], [1, "2"]]:
            self.refuses(NoNumbers, thing, road_led, line_web("abc"), "a", thing)
            self.refuses(NoNumbers, thing, road_led, Web(["a"], []), "a", thing)

    def test_what_is_handed_in_stays(self):
        web = ring_web("abcd")
        for thing in things() + [[1, 2]]:
            self.keeps(road_led, web, "a", thing)
            self.keeps(road_led, web, thing, thing)
        road = road_led(web, "a", [1])
        road.back()
        self.assertEqual(road_led(web, "a", [1]).gone(), list("adcba"))


def ways_by_trying(road, player, hand):
    """All ways, by trying all rows of moves along a plain list of ties."""
    web, gone, found = road.web(), road.gone(), []
    for row in roads_by_trying(road.ties_left(), road.stands_at(), 30):
        behind = went(web, gone + row)
        asked = [(went(web, gone + row[:at]), row[at]) for at in range(len(row))]
        if behind.ended() and all(player.choose(one) == name for one, name in asked if one.hand() == hand):
            found.append((tuple(row), behind.loser()))
    return sorted(found, key=lambda way: [web.number_of(name) for name in way[0]])


def nearest_by_ties(web, ties, place, hand, turn):
    """All ways where one hand always goes to the nearest place, by a plain list of ties."""
    ways = sorted(ways_to_go(ties, place), key=lambda way: web.number_of(way[0]))
    if not ways:
        return [((), turn)]
    return [((name,) + names, loser) for name, left in (ways[:1] if turn == hand else ways)
            for names, loser in nearest_by_ties(web, left, name, hand, 1 - turn)]


class AllAnswers(Case):
    def test_some_ways(self):
        road = Road(line_web("abc"), "b")
        self.assertEqual(road_answers(road, Nearest(), 0), [(("a",), 1)])
        self.assertEqual(road_answers(road, Nearest(), 1), [(("a",), 1), (("c",), 1)])
        web = Web(list("bca"), full_ties("abc", 3))
        told = road_answers(Road(web, "a"), Farthest(), 1)
        self.assertEqual(told, [(("b", "c", "a"), 1), (("c", "b", "a"), 1)])
        self.assertEqual((type(told), type(told[0]), type(told[0][0]), type(told[0][1])), (list, tuple, tuple, int))

    def test_by_trying(self):
        for web in list(all_webs("bdac"))[::5] + mixed_webs(3, 5, 6) + two_sided_webs(2, 6, 7):
            players = [Nearest(), Farthest(), Numbered([1, -4, 2]), Evener(["a", "c"]), Evener([])]
            players += [By(lambda moves: moves[len(moves) // 2])] + ([Keen()] if is_two_sided(web) else [])
            for player in players:
                for names in [["a"], ["b"]] + [["c", move] for move in web.beside("c")]:
                    road = went(web, names)
                    for hand in (0, 1):
                        self.assertEqual(road_answers(road, player, hand), ways_by_trying(road, player, hand))

    def test_ended_roads(self):
        ended = ((Road(Web(["a"], []), "a"), 0), (went(ring_web("abc"), list("abca")), 1))
        apart = Web(list("abcde"), full_ties("abc", 3) + [("d", "e")])
        for road, loser in ended + ((went(apart, ["d", "e"]), 1),):
            for hand in (0, 1):
                for player in (By(never), Keen()):
                    self.assertEqual(road_answers(road, player, hand), [((), loser)])

    def test_at_a_turn_without_a_move_the_player_is_not_asked(self):
        handed = []
        player = By(lambda moves: handed.append(moves) or moves[0])
        road_answers(Road(line_web("abc"), "a"), player, 0)
        self.assertEqual(handed, [["b"]])

    def test_ten_and_eleven_ties(self):
        ring = ring_web(FOURTEEN[:10])
        self.assertEqual(road_answers(Road(ring, "a"), Nearest(), 0), [(tuple("bcdefghija"), 0)])
        full = Web(list("dabce"), full_ties("abcde", 10))
        for hand in (0, 1):
            told = nearest_by_ties(full, full.ties(), "a", hand, 0)
            self.assertEqual(road_answers(Road(full, "a"), Nearest(), hand), told)
        more = Web(FOURTEEN, ring.ties() + [("m", "n")])
        self.refuses_with(TooMany, 11, road_answers, Road(more, "a"), Nearest(), 0)
        self.assertEqual(len(road_answers(went(more, ["a", "b"]), Nearest(), 0)), 1)
        self.refuses_with(TooMany, 11, road_answers, Road(more, "k"), Nearest(), 0)
        self.refuses_with(TooMany, 30, road_answers, Road(Web(FOURTEEN, full_ties(FOURTEEN, 30)), "a"), Keen(), 1)

    def test_refusals_in_their_order(self):
        roads = (Road(Web(FOURTEEN, full_ties(FOURTEEN, 30)), "a"), Road(ring_web("abc"), "a"), Road(Web(["a"], []), "a"))
        for road in roads:
            for thing in other_things(Player):
                for hand in (0, None, True):
                    self.refuses(NoPlayer, thing, road_answers, road, thing, hand)
            for thing in [thing for thing in things() if isinstance(thing, bool) or thing not in (0, 1)] + NO_HANDS:
                for player in (By(never), Keen()):
                    self.refuses(NoNumbers, thing, road_answers, road, player, thing)
        self.refuses_with(TooMany, 30, road_answers, roads[0], By(lambda moves: None), 0)

    def test_no_move_in_the_first_way(self):
        for thing in things() + ["a", "q", ["b"]]:
            road = Road(Web(list("abcd"), full_ties("abcd", 6)), "a")
            before = road_told(road)
            self.refuses(NoMove, thing, road_answers, road, By(lambda moves: thing), 0)
            if thing != "a":
                self.refuses(NoMove, thing, road_answers, road, By(lambda moves: thing), 1)
            self.assertEqual(road_told(road), before)
        first, second = ["first"], ["second"]
        told = By(lambda moves: first if moves == ["a", "c"] else second)
        web = Web(list("mxyabc"), [("m", "x"), ("m", "y"), ("x", "a"), ("x", "c"), ("y", "b")])
        self.refuses(NoMove, first, road_answers, Road(web, "m"), told, 1)
        later = By(lambda moves: "a" if moves == ["a", "c"] else second)
        self.refuses(NoMove, second, road_answers, Road(web, "m"), later, 1)

    def test_keen_refuses(self):
        road = Road(Web(list("abcdef"), full_ties("abc", 3) + [("d", "e"), ("e", "f")]), "d")
        before = road_told(road)
        for hand in (0, 1):
            self.assertEqual(sorted(self.caught(Odd, road_answers, (road, Keen(), hand)).ring), ["a", "b", "c"])
        self.assertEqual(road_told(road), before)
        self.assertEqual(road_answers(Road(ring_web("abc"), "a"), Keen(), 1), [(tuple("bca"), 1), (tuple("cba"), 1)])

    def test_the_road_stays_as_it_is(self):
        road = went(ring_web("abcd"), ["a"])
        before = road_told(road)
        told = road_answers(road, Keen(), 0)
        self.assertEqual(road_told(road), before)
        told.clear()
        self.assertNotEqual(road_answers(road, Keen(), 0), [])
        for thing in things():
            self.keeps(road_answers, road, thing, thing)
            self.keeps(road_answers, road, Nearest(), thing)
        self.assertEqual(road_told(road), before)


class WhatFollows(Case):
    def test_evener_from_the_start_on(self):
        for web in small_two_sided_webs() + two_sided_webs(6, 9, 10):
            for start in web.places():
                word, names = told_set(web, start)
                hand = 0 if word == "won" else 1
                ways = road_answers(Road(web, start), Evener(names), hand)
                self.assertEqual({loser for _, loser in ways}, {1 - hand})

    def test_keen_from_any_road_that_its_hand_wins(self):
        for web in small_two_sided_webs()[::2]:
            known = {}
            for start in web.places():
                for row in roads_by_trying(web.ties(), start, 3):
                    road = went(web, [start] + row)
                    wins = road_mover_wins(road.ties_left(), road.stands_at(), known)
                    hand = road.hand() if wins else 1 - road.hand()
                    ways = road_answers(road, Keen(), hand)
                    self.assertEqual({loser for _, loser in ways}, {1 - hand})

    def test_players_for_plays_alone_are_players(self):
        web = line_web("abc")
        for player in (Partner(web, [("a", "b")]), Best()):
            self.assertIsInstance(player, Player)
        self.assertEqual(match(Play(web, "a"), Best(), Evener(["c"])), 1)


if __name__ == "__main__":
    unittest.main()
