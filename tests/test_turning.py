"""[5], [6], [9], [94], [95], [96]: places and ties that turn the winner, and ties that give one pair more."""

import unittest
from itertools import combinations

from helper import FOURTEEN, Case, all_webs, full_ties, greatest_by_trying, line_web, loose_by_counting, mixed_webs
from helper import most_among, most_pairs, mover_wins, ring_web, things, told_webs
from onceroad.errors import NoPlace
from onceroad.plays import Play
from onceroad.turning import ties_for_a_pair, turning_new_ties, turning_places, turning_ties
from onceroad.webs import Web

ASKED = (turning_places, turning_ties, turning_new_ties)


def hand_by_counting(web, start):
    return 1 if start in loose_by_counting(web) else 0


def hand_by_playing(web, start):
    return 0 if mover_wins(Play(web, start), {}) else 1


def not_tied(web):
    return [two for two in combinations(web.places(), 2) if two not in web.ties()]


def pairs_with(web, two):
    """How many greatest pairs would be with a tie more, also where the web has thirty."""
    near = [web.bits_beside(place) for place in web.places()]
    one, other = web.number_of(two[0]), web.number_of(two[1])
    near[one] |= 1 << other
    near[other] |= 1 << one
    return most_among(near, (1 << len(near)) - 1, {})


class Held(Case):
    def looks_at(self, web, start, hand_of):
        hand = hand_of(web, start)
        others = [place for place in web.places() if place != start]
        told = [place for place in others if hand_of(web.without([place]), start) != hand]
        self.assertEqual(turning_places(web, start), told)
        told = [tie for tie in web.ties() if hand_of(web.without_tie(*tie), start) != hand]
        self.assertEqual(turning_ties(web, start), told)
        free = not_tied(web) if len(web.ties()) < 30 else []
        told = [two for two in free if hand_of(web.with_tie(*two), start) != hand]
        self.assertEqual(turning_new_ties(web, start), told)

    def test_against_playing_on_all_small_webs(self):
        for web in list(all_webs("bdac")) + mixed_webs(3, 5, 6):
            for start in web.places():
                self.looks_at(web, start, hand_by_playing)

    def test_against_counting(self):
        for web in mixed_webs(6, 7, 9) + told_webs()[3:8]:
            for start in web.places():
                self.looks_at(web, start, hand_by_counting)
        for web in mixed_webs(1, 14, 30) + mixed_webs(1, 14, 18) + [ring_web(FOURTEEN[:13])]:
            for start in "ah":
                self.looks_at(web, start, hand_by_counting)

    def test_ties_for_a_pair_against_counting(self):
        for web in list(all_webs("bdac")) + told_webs() + mixed_webs(10, 7, 8):
            most = most_pairs(web)
            self.assertEqual(ties_for_a_pair(web), [two for two in not_tied(web) if pairs_with(web, two) == most + 1])

    def test_ties_for_a_pair_are_those_that_greatest_pairs_leave_both_single(self):
        for web in list(all_webs("bdac")) + mixed_webs(6, 7, 7):
            paired = [sum(pairs, ()) for pairs in greatest_by_trying(web)]
            told = [two for two in combinations(web.places(), 2)
                    if any(two[0] not in names and two[1] not in names for names in paired)]
            self.assertEqual(ties_for_a_pair(web), told)


class Sorts(Case):
    def test_places_by_their_sorts(self):
        for web in list(all_webs("bdac")) + mixed_webs(8, 7, 8):
            free = loose_by_counting(web)
            paired = [sum(pairs, ()) for pairs in greatest_by_trying(web)]
            for start in web.places():
                told = turning_places(web, start)
                for place in [place for place in web.places() if place != start]:
                    if (place in free) != (start in free):
                        self.assertNotIn(place, told)
                    elif place in free:
                        both = any(place not in names and start not in names for names in paired)
                        self.assertEqual(place in told, not both)
                    else:
                        fewer = most_pairs(web) - most_pairs(web.without([place, start]))
                        self.assertEqual(place in told, fewer == 1)
                    self.assertEqual(place in told, start in turning_places(web, place))

    def test_a_tie_put_in(self):
        for web in list(all_webs("bdac")) + mixed_webs(8, 7, 8):
            gives = ties_for_a_pair(web)
            for two in not_tied(web):
                turned = [start for start in web.places() if two in turning_new_ties(web, start)]
                behind = loose_by_counting(web.with_tie(*two))
                if two in gives:
                    self.assertTrue(all(start not in behind for start in turned + list(two)))
                else:
                    self.assertTrue(all(start in behind for start in turned))

    def test_pairs_change_by_one_at_most(self):
        for web in list(all_webs("bdac")) + mixed_webs(6, 8, 11):
            most = most_pairs(web)
            self.assertEqual(most_pairs(web.with_place("z")), most)
            webs = [web.without([place]) for place in web.places()] + [web.without_tie(*tie) for tie in web.ties()]
            self.assertLessEqual({most - most_pairs(other) for other in webs}, {0, 1})
            self.assertLessEqual({most_pairs(web.with_tie(*two)) - most for two in not_tied(web)}, {0, 1})


class Some(Case):
    def test_a_line(self):
        web = line_web("abc")
        self.assertEqual(turning_places(web, "a"), ["c"])
        self.assertEqual(turning_places(web, "b"), [])
        self.assertEqual(turning_ties(web, "a"), [("b", "c")])
        self.assertEqual(turning_ties(web, "b"), [])
        self.assertEqual(turning_new_ties(web, "b"), [("a", "c")])
        self.assertEqual(ties_for_a_pair(web), [])
        self.assertEqual(ties_for_a_pair(web.with_place("d")), [("a", "d"), ("c", "d")])

    def test_told_by_the_order_of_the_web(self):
        web = Web(list("dcba"), [("a", "b")])
        self.assertEqual(ties_for_a_pair(web), [("d", "c")])
        self.assertEqual(turning_ties(web, "a"), [("b", "a")])
        self.assertEqual(turning_new_ties(web, "b"), [("d", "a"), ("c", "a")])
        self.assertEqual(turning_new_ties(web, "c"), [("d", "c")])
        self.assertEqual(turning_places(Web(list("dcba"), [("d", "a"), ("a", "b"), ("c", "a")]), "c"), [])

    def test_few_places(self):
        self.assertEqual(ties_for_a_pair(Web([], [])), [])
        self.assertEqual(ties_for_a_pair(Web(["a"], [])), [])
        self.assertEqual(ties_for_a_pair(Web(["b", "a"], [])), [("b", "a")])
        for ask in ASKED:
            self.assertEqual(ask(Web(["a"], []), "a"), [])
        self.assertEqual(turning_new_ties(Web(["b", "a"], []), "a"), [("b", "a")])

    def test_thirty_ties(self):
        web = Web(FOURTEEN, full_ties("abcdefgh", 28) + [("i", "j"), ("k", "l")])
        for start in FOURTEEN:
            self.assertEqual(turning_new_ties(web, start), [])
        self.assertEqual(ties_for_a_pair(web), [("m", "n")])
        self.assertEqual(turning_new_ties(web.without_tie("k", "l"), "m"), [("k", "m"), ("l", "m"), ("m", "n")])
        self.assertEqual(turning_places(web, "i"), ["j"])

    def test_fourteen_places(self):
        web = Web(FOURTEEN, [])
        self.assertEqual(ties_for_a_pair(web), list(combinations(FOURTEEN, 2)))
        self.assertEqual(turning_new_ties(web, "c"), [two for two in combinations(FOURTEEN, 2) if "c" in two])
        self.assertEqual(turning_places(line_web(FOURTEEN), "a"), FOURTEEN[1::2])


class Refused(Case):
    def test_what_is_no_place(self):
        full = Web(FOURTEEN, full_ties(FOURTEEN, 30))
        for ask in ASKED:
            for thing in things() + ["q", ["a"], ("a",), {"a": 1}]:
                self.refuses(NoPlace, thing, ask, line_web("abc"), thing)
                self.refuses(NoPlace, thing, ask, full, thing)
                self.refuses(NoPlace, thing, ask, Web([], []), thing)
            self.refuses(NoPlace, "a", ask, Web([], []), "a")

    def test_what_is_handed_in_stays_and_lists_are_new(self):
        web = line_web("abcde")
        before = web.told()
        for ask in ASKED:
            for thing in things() + ["a"]:
                self.keeps(ask, web, thing)
            told = ask(web, "a")
            told.append("q")
            self.assertEqual(ask(web, "a"), told[:-1])
            self.assertIs(type(told), list)
        ties_for_a_pair(web.with_place("f")).clear()
        self.assertEqual(ties_for_a_pair(web.with_place("f")), [("a", "f"), ("c", "f"), ("e", "f")])
        self.assertEqual(web.told(), before)

    def test_ties_are_tuples(self):
        for ties in (turning_ties(line_web("abc"), "a"), turning_new_ties(line_web("abc"), "b"),
                     ties_for_a_pair(Web(["a", "b"], []))):
            self.assertEqual([type(tie) for tie in ties], [tuple])


if __name__ == "__main__":
    unittest.main()
