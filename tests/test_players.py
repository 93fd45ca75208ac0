"""[5], [80], [81], [82], [83]: the kinds of players, asked with plays and with what tells as little as a road."""

import unittest

from helper import FOURTEEN, Case, all_pairs, all_plays, all_told, all_webs, full_ties, line_web, mixed_webs, ring_web
from helper import road_told, things
from onceroad.errors import NoNumbers, NoPairs
from onceroad.greatest import greatest
from onceroad.pairs import partner_of
from onceroad.players import Best, By, Farthest, Nearest, Numbered, Partner, Player
from onceroad.plays import Play, played
from onceroad.roads import Road
from onceroad.webs import Web
from onceroad.wins import of_play

ENDED = played(line_web("abc"), ["b", "c"])


class OnlyRoad:
    """What a player of any kind may ask of a road, and nothing else."""

    def __init__(self, names, moves):
        self.names = names
        self.ways = moves

    def gone(self):
        return list(self.names)

    def moves(self):
        return list(self.ways)


class Kinds(Case):
    def test_each_stands_straight_under_player(self):
        for kind in (Partner, Nearest, Farthest, Numbered, By, Best):
            self.assertEqual(kind.__bases__, (Player,))
        for player in (Partner(Web([], []), []), Nearest(), Farthest(), Numbered([0]), By(len), Best()):
            self.assertIsInstance(player, Player)

    def test_choosing_changes_neither_the_play_nor_the_player(self):
        web = ring_web("abcde")
        players = [Partner(web, [("b", "c"), ("e", "d")]), Nearest(), Farthest(), Numbered([3, -1, 2]), Best(), By(sorted)]
        for names in ("a", "ab", "cdea", "abcde"):
            play = played(web, list(names))
            before = all_told(play)
            for player in players:
                told = player.choose(play)
                self.assertEqual(player.choose(play), told)
                self.assertEqual(player.choose(play.twin()), told)
                self.assertEqual(all_told(play), before)


class Partners(Case):
    def test_the_partner_of_the_tokens_place(self):
        for web in list(all_webs("bdac"))[::7]:
            for pairs in all_pairs(web):
                player = Partner(web, pairs[::-1])
                for start in web.places():
                    for play in all_plays(web, start):
                        self.assertEqual(player.choose(play), partner_of(web, pairs, play.stands_at()))

    def test_a_place_where_the_token_was(self):
        web = line_web("abcd")
        player = Partner(web, [("b", "a"), ("c", "d")])
        self.assertEqual(player.choose(played(web, ["a", "b"])), "a")
        self.assertEqual(player.choose(played(web, ["b", "a"])), "b")
        self.assertEqual(player.choose(played(web, ["b", "c"])), "d")

    def test_none_where_there_is_none(self):
        web = line_web("abc")
        self.assertIsNone(Partner(web, []).choose(Play(web, "b")))
        self.assertIsNone(Partner(web, [("b", "c")]).choose(Play(web, "a")))

    def test_on_a_web_of_some_of_its_places(self):
        web = line_web("abcd")
        player = Partner(web, [("b", "a"), ("c", "d")])
        self.assertEqual(player.choose(Play(web.without(["a"]), "c")), "d")
        self.assertEqual(player.choose(Play(web.without(["a"]), "b")), "a")

    def test_no_pairs(self):
        web = line_web("abcd")
        wrong = [(), (("a", "b"),), [("a", "b"), ("b", "c")], [("a", "c")], [["a", "b"]], [("a", "b"), ("b", "a")]]
        for thing in wrong + [thing for thing in things() if thing != []]:
            self.refuses(NoPairs, thing, Partner, web, thing)
            self.refuses(NoPairs, thing, Partner, Web([], []), thing)

    def test_the_pairs_are_kept_as_a_copy(self):
        web = line_web("abcd")
        pairs = [("b", "a")]
        player = Partner(web, pairs)
        pairs[0] = ("b", "c")
        pairs.append(("a", "d"))
        self.assertEqual(player.choose(Play(web, "b")), "a")
        self.assertIsNone(player.choose(Play(web, "c")))
        self.assertEqual(pairs, [("b", "c"), ("a", "d")])
        for thing in things() + [[("c", "b")]]:
            self.keeps(Partner, web, thing)


class NearAndFar(Case):
    def test_the_first_and_the_last_of_the_moves(self):
        for web in mixed_webs(5, 6, 9):
            for start in web.places():
                for play in all_plays(web, start):
                    moves = play.moves() or [None]
                    self.assertEqual((Nearest().choose(play), Farthest().choose(play)), (moves[0], moves[-1]))

    def test_where_there_is_no_move(self):
        self.assertIsNone(Nearest().choose(ENDED))
        self.assertIsNone(Farthest().choose(ENDED))
        self.assertIsNone(Nearest().choose(Play(Web(["a"], []), "a")))

    def test_on_a_road(self):
        road = OnlyRoad(["a", "b", "a"], ["d", "c", "b"])
        self.assertEqual((Nearest().choose(road), Farthest().choose(road)), ("d", "b"))
        self.assertIsNone(Farthest().choose(OnlyRoad(["a"], [])))


class Numbers(Case):
    def test_by_the_moves_that_were_made(self):
        web = Web(list("cabde"), full_ties("abcde", 10))
        player = Numbered([1, 3, -1])
        self.assertEqual(player.choose(Play(web, "a")), "b")
        self.assertEqual(player.choose(played(web, ["a", "b"])), "c")
        self.assertEqual(player.choose(played(web, ["a", "b", "c"])), "e")
        self.assertEqual(player.choose(played(web, ["a", "b", "c", "d"])), "e")

    def test_fewer_numbers_than_moves_and_numbers_below_nought(self):
        web = Web(FOURTEEN, full_ties(FOURTEEN, 13))
        for number, told in ((0, "b"), (12, "n"), (13, "b"), (-1, "n"), (-13, "b"), (-14, "n"), (10 ** 39, None), (5, "g")):
            name = told or FOURTEEN[1:][10 ** 39 % 13]
            self.assertEqual(Numbered([number]).choose(Play(web, "a")), name)
        self.assertEqual(Numbered([-5]).choose(Play(line_web("abc"), "b")), "c")

    def test_numbers_against_the_words(self):
        numbers = [4, -7, 0, 10 ** 20, 3]
        for many in (1, 2, 5):
            player = Numbered(numbers[:many])
            for web in mixed_webs(4, 6, 9):
                for play in all_plays(web, "a"):
                    moves = play.moves()
                    number = numbers[:many][(len(play.gone()) - 1) % many]
                    self.assertEqual(player.choose(play), moves[number % len(moves)] if moves else None)

    def test_one_and_sixty_numbers(self):
        web = line_web("abc")
        self.assertEqual(Numbered([1]).choose(Play(web, "b")), "c")
        player = Numbered([0] + [1] * 58 + [2])
        self.assertEqual(player.choose(Play(web, "b")), "a")
        self.assertEqual(player.choose(OnlyRoad(["a"] * 60, ["a", "b", "c"])), "c")
        self.assertEqual(player.choose(OnlyRoad(["a"] * 61, ["a", "b", "c"])), "a")
        self.assertEqual(player.choose(OnlyRoad(["a"] * 62, ["a", "b", "c"])), "b")

    def test_where_there_is_no_move(self):
        self.assertIsNone(Numbered([0]).choose(ENDED))
        self.assertIsNone(Numbered([3, 4]).choose(OnlyRoad(["a", "b"], [])))

    def test_no_numbers(self):
        wrong = [[0] * 61, [], (1,), (), [1, True], [False], [1, "2"], [None], [[1]], [(1,)], "1", {1: 1}, 1]
        for thing in wrong + things():
            self.refuses(NoNumbers, thing, Numbered, thing)
        for thing in things():
            if isinstance(thing, bool) or not isinstance(thing, int):
                found = [1, thing]
                self.refuses(NoNumbers, found, Numbered, found)

    def test_the_numbers_are_kept_as_a_copy(self):
        numbers = [1]
        player = Numbered(numbers)
        numbers[0] = 0
        numbers.append(0)
        self.assertEqual(player.choose(Play(line_web("abc"), "b")), "c")
        self.assertEqual(numbers, [0, 0])
        for thing in things():
            self.keeps(Numbered, thing)


class OnRoads(Case):
    def test_where_places_are_come_to_several_times(self):
        numbers = [4, -7, 0, 10 ** 20, 3, 1, 2, -1]
        for web in mixed_webs(4, 6, 9) + [ring_web("abc")]:
            for many in (1, 3, 8):
                player = Numbered(numbers[:many])
                road = Road(web, "a")
                for made in range(10):
                    moves = [name for name in web.beside(road.stands_at()) if name in road.moves()]
                    told = [moves[0], moves[-1], moves[numbers[made % many] % len(moves)]] if moves else [None] * 3
                    before = road_told(road)
                    self.assertEqual([Nearest().choose(road), Farthest().choose(road), player.choose(road)], told)
                    self.assertEqual(By(list).choose(road), moves)
                    self.assertEqual(road_told(road), before)
                    if moves:
                        road.go(told[2])


class ByFunctions(Case):
    def test_what_the_function_is_handed(self):
        handed = []
        player = By(handed.append)
        web = Web(list("cabd"), full_ties("abcd", 6))
        self.assertIsNone(player.choose(Play(web, "a")))
        player.choose(played(web, ["a", "d"]))
        player.choose(ENDED)
        player.choose(OnlyRoad(["a"], ["d", "a"]))
        self.assertEqual(handed, [["c", "b", "d"], ["c", "b"], [], ["d", "a"]])
        self.assertIs(type(handed[0]), list)

    def test_the_very_thing_is_told(self):
        for thing in things() + ["a", ["a"]]:
            self.assertIs(By(lambda moves: thing).choose(Play(line_web("abc"), "b")), thing)
            self.assertIs(By(lambda moves: thing).choose(ENDED), thing)

    def test_the_list_is_a_new_one(self):
        play = Play(line_web("abc"), "b")
        player = By(lambda moves: moves.pop())
        self.assertEqual([player.choose(play), player.choose(play)], ["c", "c"])
        self.assertEqual(play.moves(), ["a", "c"])


class BestMoves(Case):
    def test_against_how_the_play_stands(self):
        for web in list(all_webs("bdac"))[::7] + mixed_webs(4, 6, 8):
            for start in web.places():
                for play in all_plays(web, start):
                    told = (of_play(play)[1] + play.moves() + [None])[0]
                    self.assertEqual(Best().choose(play), told)

    def test_good_moves_go_ahead_of_others(self):
        self.assertEqual(Best().choose(Play(line_web("abcd"), "c")), "d")
        self.assertEqual(Best().choose(Play(line_web("abc"), "a")), "b")
        self.assertIsNone(Best().choose(ENDED))
        web = Web(FOURTEEN, list(zip(FOURTEEN[1:], FOURTEEN[2:])))
        self.assertEqual(Best().choose(Play(web, "c")), "b")
        self.assertIn(("c", "b")[::-1], greatest(web))


if __name__ == "__main__":
    unittest.main()
