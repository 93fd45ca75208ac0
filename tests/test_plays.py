"""[5], [20], [21], [22], [23]: plays, their moves, and rows of moves."""

import unittest
from itertools import permutations

from helper import FOURTEEN, Case, all_told, all_webs, full_ties, line_web, other_things, ring_web, things
from onceroad.errors import NoBack, NoMove, NoNumbers, NoPlace
from onceroad.plays import Play, all_within, played, rows_within
from onceroad.webs import Web


def rows_by_trying(play, many):
    """All rows of at most so many moves, by trying all orders of places, in the order of the numbers of their places."""
    web = play.web()
    found = []
    for size in range(many + 1):
        for names in permutations(play.left(), size):
            way = [play.stands_at()] + list(names)
            if all(web.tied(one, other) for one, other in zip(way, way[1:])):
                found.append(list(names))
    return sorted(found, key=lambda names: [web.number_of(name) for name in names])


class Begun(Case):
    def test_a_play_at_its_start(self):
        web = Web(list("cab"), [("a", "b"), ("c", "a")])
        play = Play(web, "a")
        self.assertEqual(play.web().told(), web.told())
        self.assertEqual((play.stands_at(), play.gone(), play.left()), ("a", ["a"], ["c", "b"]))
        self.assertEqual((play.moves(), play.hand(), play.loser()), (["c", "b"], 0, None))
        self.is_false(play.ended())
        self.assertEqual(play.web_left().told(), web.told())
        self.assertEqual(play.position(), ("a", web.told()))

    def test_a_place_without_ties_ends_at_once(self):
        play = Play(Web(["a", "b"], []), "b")
        self.is_true(play.ended())
        self.assertEqual((play.moves(), play.hand(), play.loser(), play.left()), ([], 0, 0, ["a"]))
        self.assertIs(type(play.loser()), int)

    def test_no_place(self):
        for thing in things() + ["q", ["a"], ("a",)]:
            self.refuses(NoPlace, thing, Play, line_web("abc"), thing)
            self.refuses(NoPlace, thing, Play, Web([], []), thing)


class Gone(Case):
    def test_a_play_to_its_end(self):
        play = Play(ring_web("abcd"), "b")
        self.assertIsNone(play.go("c"))
        self.assertEqual((play.hand(), play.moves(), play.left(), play.loser()), (1, ["d"], ["a", "d"], None))
        play.go("d")
        self.assertEqual((play.hand(), play.moves(), play.ended()), (0, ["a"], False))
        play.go("a")
        self.assertEqual((play.hand(), play.moves(), play.ended(), play.loser()), (1, [], True, 1))
        self.assertEqual((play.gone(), play.stands_at(), play.left()), (["b", "c", "d", "a"], "a", []))

    def test_the_hand_zero_may_lose(self):
        play = played(line_web("abc"), ["a", "b", "c"])
        self.assertEqual((play.hand(), play.loser()), (0, 0))
        self.is_true(play.ended())

    def test_an_ended_play_may_leave_places(self):
        play = played(Web(list("abcd"), [("a", "b"), ("a", "c"), ("c", "d")]), ["a", "b"])
        self.assertEqual((play.left(), play.loser(), play.ended()), (["c", "d"], 1, True))

    def test_the_web_left_and_the_position(self):
        play = played(ring_web("dcba"), ["c", "b"])
        left = (("d", "b", "a"), (("d", "a"), ("b", "a")))
        self.assertEqual(play.web_left().told(), left)
        self.assertEqual(play.position(), ("b", left))

    def test_plays_with_one_position_go_on_alike(self):
        web = Web(FOURTEEN[:5], full_ties("abcde", 10))
        one = played(web, ["a", "b", "c", "d"])
        other = played(web, ["b", "a", "c", "d"])
        longer = played(web.with_place("f"), ["a", "b", "c", "d"])
        self.assertEqual(one.position(), other.position())
        self.assertNotEqual(one.position(), longer.position())
        self.assertEqual(one.moves(), other.moves())
        one.go("e")
        other.go("e")
        self.assertEqual(one.position(), other.position())

    def test_what_is_no_move_changes_nothing(self):
        play = played(ring_web("abcd"), ["a", "b"])
        before = all_told(play)
        for thing in things() + ["a", "b", "d", "q", ["c"], ("c",), {"c": 1}]:
            self.refuses(NoMove, thing, play.go, thing)
        self.assertEqual(all_told(play), before)

    def test_in_an_ended_play_nothing_is_a_move(self):
        play = played(line_web("abc"), ["a", "b", "c"])
        for thing in things() + ["a", "b", "c"]:
            self.refuses(NoMove, thing, play.go, thing)
        self.assertEqual(play.gone(), ["a", "b", "c"])

    def test_the_greatest_webs(self):
        play = played(line_web(FOURTEEN), FOURTEEN)
        self.assertEqual((play.gone(), play.hand(), play.loser()), (FOURTEEN, 1, 1))
        play = Play(Web(FOURTEEN, full_ties(FOURTEEN, 30)), "a")
        self.assertEqual(play.moves(), FOURTEEN[1:])


class Back(Case):
    def test_taken_back_and_gone_otherwise(self):
        play = played(ring_web("abcd"), ["a", "b", "c"])
        self.assertEqual(play.back(), "c")
        self.assertEqual((play.stands_at(), play.moves(), play.left(), play.hand()), ("b", ["c"], ["c", "d"], 1))
        self.assertEqual(play.back(), "b")
        self.assertEqual(all_told(play), all_told(Play(ring_web("abcd"), "a")))
        play.go("d")
        self.assertEqual(play.gone(), ["a", "d"])

    def test_an_ended_play_goes_on(self):
        play = played(line_web("abc"), ["b", "c"])
        self.assertEqual((play.loser(), play.back(), play.loser()), (1, "c", None))
        play.go("a")
        self.assertEqual(play.gone(), ["b", "a"])

    def test_no_back(self):
        play = Play(line_web("abc"), "b")
        before = all_told(play)
        self.caught(NoBack, play.back, ())
        play.go("a")
        play.back()
        self.caught(NoBack, play.back, ())
        self.assertEqual(all_told(play), before)


class Twins(Case):
    def test_twins_go_their_own_ways(self):
        play = played(ring_web("abcd"), ["a", "b"])
        twin = play.twin()
        self.assertIsInstance(twin, Play)
        self.assertEqual(all_told(twin), all_told(play))
        before = all_told(play)
        twin.go("c")
        self.assertEqual(all_told(play), before)
        play.back()
        play.go("d")
        self.assertEqual((play.gone(), twin.gone()), (["a", "d"], ["a", "b", "c"]))

    def test_a_twin_has_the_same_places_behind_it(self):
        twin = played(line_web("abc"), ["a", "b", "c"]).twin()
        self.assertEqual((twin.back(), twin.back()), ("c", "b"))
        self.caught(NoBack, twin.back, ())


class Played(Case):
    def test_of_lists_and_tuples(self):
        web = line_web("abcd")
        self.assertEqual(played(web, ["b"]).gone(), ["b"])
        self.assertEqual(played(web, ("b", "c", "d")).gone(), ["b", "c", "d"])

    def test_no_names_at_all(self):
        web = line_web("abcd")
        for thing in other_things((list, tuple)) + ["a", [], (), {"a": 1}]:
            self.refuses(NoPlace, thing, played, web, thing)

    def test_the_first_is_no_place(self):
        for thing in things() + ["q", ["a"]]:
            self.refuses(NoPlace, thing, played, line_web("abcd"), [thing, "b", None])

    def test_the_first_that_is_no_move(self):
        for thing in things() + ["a", "b", "d", "q", ["c"]]:
            self.refuses(NoMove, thing, played, line_web("abcd"), ["a", "b", thing, None])
            self.refuses(NoMove, thing, played, line_web("abcd"), ("b", "a", thing, "c"))


class Rows(Case):
    def test_rows_in_their_order(self):
        web = Web(list("bca"), [("a", "b"), ("b", "c"), ("a", "c")])
        play = Play(web, "a")
        self.assertEqual(rows_within(play, 0), [[]])
        self.assertEqual(rows_within(play, 1), [[], ["b"], ["c"]])
        self.assertEqual(rows_within(play, 2), [[], ["b"], ["b", "c"], ["c"], ["c", "b"]])
        self.assertEqual(rows_within(play, 3), rows_within(play, 2))

    def test_from_the_midst_and_from_the_end(self):
        play = played(line_web("abcde"), ["b", "c"])
        self.assertEqual(rows_within(play, 3), [[], ["d"], ["d", "e"]])
        self.assertEqual(all_within(play, 5), 3)
        ended = played(line_web("abc"), ["b", "a"])
        self.assertEqual(rows_within(ended, 3), [[]])
        self.assertEqual(all_within(ended, 5), 1)

    def test_against_trying_all(self):
        for web in all_webs("dbca"):
            for start in "abcd":
                play = Play(web, start)
                for many in range(4):
                    rows = rows_by_trying(play, many)
                    self.assertEqual(rows_within(play, many), rows)
                    self.assertEqual(all_within(play, many), len(rows))

    def test_numbers_of_a_full_web(self):
        web = Web(list("hgfedcba"), full_ties("abcdefgh", 28))
        play = Play(web, "c")
        self.assertEqual([all_within(play, many) for many in range(6)], [1, 8, 50, 260, 1100, 3620])
        self.assertEqual(rows_within(play, 3), rows_by_trying(play, 3))
        self.assertIs(type(all_within(play, 0)), int)

    def test_of_webs_of_fourteen_places(self):
        play = Play(line_web(FOURTEEN), "g")
        self.assertEqual([all_within(play, many) for many in range(6)], [1, 3, 5, 7, 9, 11])
        play = Play(Web(FOURTEEN, full_ties(FOURTEEN, 30)), "n")
        self.assertEqual(rows_within(play, 3), rows_by_trying(play, 3))

    def test_what_is_no_such_number(self):
        play = Play(line_web("abc"), "a")
        for thing in [thing for thing in things() if thing is True or thing not in (0, 1)] + [False, -1, "1", [1]]:
            self.refuses(NoNumbers, thing, rows_within, play, thing)
            self.refuses(NoNumbers, thing, all_within, play, thing)
        self.refuses_with(NoNumbers, 4, rows_within, play, 4)
        self.refuses_with(NoNumbers, 6, all_within, play, 6)
        self.assertEqual(all_within(play, 4), 3)

    def test_the_play_stays_as_it_is(self):
        play = played(ring_web("abcde"), ["a", "b"])
        before = all_told(play)
        rows_within(play, 3)
        all_within(play, 5)
        self.assertEqual(all_told(play), before)
        self.assertEqual((play.back(), play.gone()), ("b", ["a"]))


class Copies(Case):
    def test_what_is_handed_in_is_kept_as_a_copy(self):
        names = ["a", "b"]
        play = played(line_web("abc"), names)
        names.append("c")
        self.assertEqual(play.gone(), ["a", "b"])
        play.go("c")
        play.back()
        play.back()
        self.assertEqual(names, ["a", "b", "c"])

    def test_what_is_handed_in_stays(self):
        web = line_web("abc")
        for thing in things():
            self.keeps(Play, web, thing)
            self.keeps(played, web, thing)
            self.keeps(Play(web, "a").go, thing)
            self.keeps(rows_within, Play(web, "a"), thing)
            self.keeps(all_within, Play(web, "a"), thing)
        self.assertEqual(web.told(), line_web("abc").told())

    def test_each_told_list_is_a_new_one(self):
        play = played(line_web("abcd"), ["a", "b"])
        before = all_told(play)
        for method in (play.gone, play.left, play.moves):
            self.assertIsNot(method(), method())
            method().clear()
            method().append("q")
        self.assertEqual(all_told(play), before)
        rows = rows_within(play, 3)
        rows[1].append("q")
        rows[2].clear()
        rows.clear()
        self.assertEqual(rows_within(play, 3), [[], ["c"], ["c", "d"]])

    def test_plays_on_one_web_have_nothing_to_do_with_one_another(self):
        web = line_web("abc")
        one = Play(web, "a")
        other = Play(web, "a")
        one.go("b")
        self.assertEqual((other.gone(), other.moves(), web.beside("a")), (["a"], ["b"], ["b"]))


if __name__ == "__main__":
    unittest.main()
