"""[5], [6], [100], [101], [102], [103], [105]: roads, what they tell, going, going back, twins, roads that go on."""

import unittest

from helper import FOURTEEN, Case, all_webs, full_ties, line_web, mixed_webs, ring_web, road_told, roads_by_trying
from helper import things, told_webs, ways_to_go, went
from onceroad.errors import NoBack, NoMove, NoNumbers, NoPlace
from onceroad.roads import Road, roads_within
from onceroad.webs import Web


def told_by_ties(web, names):
    """All that a road along these names has to tell, by plain lists of ties."""
    gone = [tie if tie in web.ties() else tie[::-1] for tie in zip(names, names[1:])]
    left = [tie for tie in web.ties() if tie not in gone]
    moves = sorted([name for name, _ in ways_to_go(left, names[-1])], key=web.number_of)
    hand = len(gone) % 2
    rest = (hand, not moves, None if moves else hand, web.told(), Web(web.places(), left).told())
    return (names[-1], names, gone, left, moves) + rest


class Roads(Case):
    def looks_at(self, road, names):
        self.assertEqual(road_told(road), told_by_ties(road.web(), names))

    def test_all_roads_of_small_webs(self):
        for web in list(all_webs("bdac")) + mixed_webs(2, 5, 6):
            for start in web.places():
                for row in roads_by_trying(web.ties(), start, 30):
                    self.looks_at(went(web, [start] + row), [start] + row)

    def test_moves_and_moves_taken_back(self):
        for turn, web in enumerate(mixed_webs(6, 14, 30) + mixed_webs(6, 8, 12) + told_webs()[1:]):
            names = [web.places()[turn % web.how_many()]]
            road = Road(web, names[0])
            state = turn
            for _ in range(80):
                state = (state * 1103515245 + 12345) % 2147483648
                choice = state >> 8
                moves = road.moves()
                if moves and choice % 8 > 1:
                    names.append(moves[choice // 8 % len(moves)])
                    self.assertIsNone(road.go(names[-1]))
                elif len(names) > 1:
                    self.assertEqual(road.back(), names.pop())
                self.looks_at(road, names)

    def test_the_web_as_it_was_handed_in(self):
        web = ring_web("abc")
        road = went(web, list("abca"))
        self.assertIs(road.web(), web)
        self.assertEqual(road.web().ties(), [("a", "b"), ("a", "c"), ("b", "c")])

    def test_a_road_that_comes_to_its_start_again(self):
        web = Web(list("abcd"), [("a", "b"), ("b", "c"), ("c", "a"), ("a", "d")])
        road = went(web, list("abca"))
        self.assertEqual((road.stands_at(), road.gone(), road.moves()), ("a", list("abca"), ["d"]))
        self.assertEqual(road.ties_gone(), [("a", "b"), ("b", "c"), ("a", "c")])
        self.assertEqual((road.ties_left(), road.hand(), road.ended(), road.loser()), ([("a", "d")], 1, False, None))
        road.go("d")
        self.assertEqual((road.gone(), road.ended(), road.loser(), road.hand()), (list("abcad"), True, 0, 0))

    def test_a_road_that_ends_at_its_start(self):
        road = went(ring_web("abc"), list("acba"))
        self.assertEqual((road.ended(), road.loser(), road.hand(), road.moves()), (True, 1, 1, []))
        self.assertEqual((road.ties_left(), road.web_left().told()), ([], (("a", "b", "c"), ())))
        self.assertEqual(road.ties_gone(), [("a", "c"), ("b", "c"), ("a", "b")])

    def test_a_place_without_ties(self):
        for web in (Web(["a"], []), Web(["b", "a"], [])):
            road = Road(web, "a")
            self.assertEqual(road_told(road), ("a", ["a"], [], [], [], 0, True, 0, web.told(), web.told()))
            self.refuses(NoMove, "b", road.go, "b")

    def test_ties_go_either_way(self):
        web = Web(list("cba"), [("a", "b"), ("b", "c")])
        road = went(web, list("abc"))
        self.assertEqual((road.ties_gone(), road.ties_left()), ([("b", "a"), ("c", "b")], []))

    def test_kinds(self):
        road = went(ring_web("abcd"), list("ab"))
        self.assertEqual([type(tie) for tie in road.ties_gone() + road.ties_left()], [tuple] * 4)
        self.assertIs(type(road.hand()), int)
        self.is_false(road.ended())
        road = went(line_web("ab"), list("ab"))
        self.assertIs(type(road.loser()), int)
        self.is_true(road.ended())
        self.assertIsInstance(road.web_left(), Web)
        self.assertIs(type(road.stands_at()), str)

    def test_where_a_road_ends(self):
        for web in list(all_webs("bdac")) + mixed_webs(2, 6, 7):
            for start in web.places():
                for row in roads_by_trying(web.ties(), start, 30):
                    road = went(web, [start] + row)
                    if road.ended():
                        end = road.stands_at()
                        self.assertEqual(len(web.beside(end)) % 2, 0 if end == start else 1)
                        self.assertEqual(len([tie for tie in road.ties_gone() if end in tie]), len(web.beside(end)))


class Refused(Case):
    def test_no_start(self):
        for thing in things() + ["q", ["a"], ("a",)]:
            self.refuses(NoPlace, thing, Road, line_web("abc"), thing)
            self.refuses(NoPlace, thing, Road, Web([], []), thing)
        self.refuses(NoPlace, "a", Road, Web([], []), "a")

    def test_no_move(self):
        for names in ("a", "ab", "abc", "abca", "abcad"):
            # The ties are those of a ring of three and one more at the place a.
            road = went(Web(list("abcde"), full_ties("abcd", 4)), list(names))
            before = road_told(road)
            for thing in things() + ["q", "e", road.stands_at(), ["b"], ("b",), {"b": "b"}, road.moves()]:
                self.refuses(NoMove, thing, road.go, thing)
                self.assertEqual(road_told(road), before)

    def test_a_tie_gone_twice(self):
        road = went(line_web("abc"), list("ab"))
        self.refuses(NoMove, "a", road.go, "a")
        road = went(ring_web("abc"), list("abca"))
        for name in "abc":
            self.refuses(NoMove, name, road.go, name)
        self.assertEqual(road.gone(), list("abca"))

    def test_nothing_to_take_back(self):
        road = Road(ring_web("abc"), "a")
        self.caught(NoBack, road.back, ())
        for name in "bca":
            road.go(name)
        self.assertEqual([road.back() for _ in range(3)], ["a", "c", "b"])
        before = road_told(road)
        self.caught(NoBack, road.back, ())
        self.assertEqual(road_told(road), before)
        self.assertEqual(before, road_told(Road(ring_web("abc"), "a")))

    def test_what_is_handed_in_stays(self):
        web = ring_web("abc")
        road = Road(web, "a")
        for thing in things() + ["a"]:
            self.keeps(Road, web, thing)
            self.keeps(road.go, thing)
            self.keeps(roads_within, road, thing)
        self.assertEqual(web.told(), ring_web("abc").told())


class Twins(Case):
    def test_twins_tell_the_same_and_go_their_own_ways(self):
        for names in ("a", "ab", "abca", "abcad"):
            web = Web(list("abcd"), [("a", "b"), ("b", "c"), ("c", "a"), ("a", "d")])
            road = went(web, list(names))
            twin = road.twin()
            self.assertIsInstance(twin, Road)
            before = road_told(road)
            self.assertEqual(road_told(twin), before)
            for _ in names[1:]:
                self.assertEqual(twin.back(), names[len(twin.gone())])
            self.assertEqual(road_told(road), before)
            twin.go("d")
            self.assertEqual((road_told(road), twin.gone()), (before, ["a", "d"]))
            if road.moves():
                road.go(road.moves()[-1])
            self.assertEqual(twin.gone(), ["a", "d"])

    def test_two_roads_on_one_web(self):
        web = ring_web("abcd")
        one, other = Road(web, "a"), Road(web, "a")
        one.go("b")
        self.assertEqual((other.gone(), other.ties_left()), (["a"], web.ties()))


class Copies(Case):
    def test_each_told_list_is_a_new_one(self):
        road = went(ring_web("abcd"), list("ab"))
        before = road_told(road)
        for tell in (road.gone, road.ties_gone, road.ties_left, road.moves):
            told = tell()
            self.assertIs(type(told), list)
            told.append("q")
            told.reverse()
            self.assertEqual(road_told(road), before)
            told.clear()
            self.assertEqual(road_told(road), before)

    def test_the_same_question_has_the_same_answer(self):
        road = went(mixed_webs(1, 14, 30)[0], ["a"])
        self.assertEqual(road_told(road), road_told(road))
        self.assertEqual(road_told(went(mixed_webs(1, 14, 30)[0], ["a"])), road_told(road))


class GoingOn(Case):
    def test_against_going_them(self):
        for web in list(all_webs("bdac"))[::3] + mixed_webs(3, 8, 12) + told_webs()[1:9]:
            for start in web.places():
                for many in range(5):
                    road = Road(web, start)
                    self.assertEqual(roads_within(road, many), len(roads_by_trying(web.ties(), start, many)))

    def test_from_the_midst_and_without_any_change(self):
        web = Web(list("cabed"), full_ties("abcde", 9))
        road = went(web, list("abcad"))
        before = road_told(road)
        for many in range(5):
            rows = roads_by_trying(road.ties_left(), "d", many)
            self.assertEqual(roads_within(road, many), len(rows))
            self.assertEqual(len(rows), len({tuple(row) for row in rows}))
        self.assertEqual(road_told(road), before)

    def test_some_numbers(self):
        self.assertEqual([roads_within(Road(ring_web("abc"), "a"), many) for many in range(5)], [1, 3, 5, 7, 7])
        self.assertEqual([roads_within(Road(Web(["a"], []), "a"), many) for many in range(5)], [1] * 5)
        self.assertEqual(roads_within(went(ring_web("abc"), list("abca")), 4), 1)
        star = Web(FOURTEEN, full_ties(FOURTEEN, 13))
        self.assertEqual([roads_within(Road(star, "a"), many) for many in range(5)], [1, 14, 14, 14, 14])
        self.assertEqual([roads_within(Road(star, "c"), many) for many in range(4)], [1, 2, 14, 14])
        self.assertIs(type(roads_within(Road(star, "c"), 0)), int)

    def test_no_numbers(self):
        road = went(ring_web("abc"), list("ab"))
        before = road_told(road)
        for thing in [thing for thing in things() if isinstance(thing, bool) or thing not in range(5)]:
            self.refuses(NoNumbers, thing, roads_within, road, thing)
        for thing in (5, -1, True, False, "0", [0], (4,), None, 10 ** 39, "4"):
            self.refuses(NoNumbers, thing, roads_within, road, thing)
        self.assertEqual(road_told(road), before)


if __name__ == "__main__":
    unittest.main()
