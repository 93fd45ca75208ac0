"""[5], [6], [9], [111], [112], [113], [114], [115]: even sets, odd sets, free even sets, good moves on a road."""

import unittest
from itertools import combinations

from helper import FOURTEEN, Case, all_webs, full_ties, great_two_sided_webs, is_two_sided, line_web, ring_web
from helper import road_mover_wins, small_two_sided_webs, things
from onceroad.errors import NoPlace, Odd
from onceroad.evens import free_evens, good_ties, is_even, is_odd, told_set
from onceroad.webs import Web

# Two rings of four at the place a, and apart from them a ring of three.
APART = Web(list("abcdefgxyz"), [("a", "b"), ("b", "c"), ("c", "d"), ("d", "a"), ("a", "e"), ("e", "f"), ("f", "g"),
                                 ("g", "a"), ("x", "y"), ("y", "z"), ("z", "x")])


def near_and_far(web, start):
    """The two sides of a start's piece, in order, by how many ties lead to each place."""
    steps, waiting = {start: 0}, [start]
    for place in waiting:
        for other in web.beside(place):
            if other not in steps:
                steps[other] = steps[place] + 1
                waiting.append(other)
    piece = [place for place in web.places() if place in steps]
    return [place for place in piece if steps[place] % 2 == 0], [place for place in piece if steps[place] % 2]


def tied_to(web, place, names):
    return len([name for name in names if web.tied(place, name)])


def is_even_by_counting(web, start, names):
    near, far = near_and_far(web, start)
    return set(names) <= set(near) and all(tied_to(web, place, names) % 2 == 0 for place in far)


def is_odd_by_counting(web, start, names):
    near, far = near_and_far(web, start)
    return set(names) <= set(far) and all(tied_to(web, place, names) % 2 == (place == start) for place in near)


def choices(names):
    return [list(choice) for many in range(len(names) + 1) for choice in combinations(names, many)]


class Told(Case):
    def looks_at(self, web, start):
        told = told_set(web, start)
        self.assertEqual((type(told), len(told), type(told[1])), (tuple, 2, list))
        word, names = told
        self.assertIn(word, ("lost", "won"))
        self.assertEqual(names, [place for place in web.places() if place in names])
        if word == "lost":
            self.assertTrue(is_even_by_counting(web, start, names) and start in names)
        else:
            self.assertTrue(is_odd_by_counting(web, start, names))
        self.is_true((is_even if word == "lost" else is_odd)(web, start, names))
        self.is_false((is_odd if word == "lost" else is_even)(web, start, names))
        return word

    def test_against_going_through_all_roads(self):
        for web in small_two_sided_webs():
            known = {}
            for start in web.places():
                wins = road_mover_wins(web.ties(), start, known)
                self.assertEqual(self.looks_at(web, start), "won" if wins else "lost")

    def test_great_webs(self):
        for web in great_two_sided_webs():
            for start in web.places():
                self.looks_at(web, start)

    def test_never_both(self):
        for web in small_two_sided_webs():
            for start in web.places():
                near, far = near_and_far(web, start)
                even = [names for names in choices(near) if start in names and is_even_by_counting(web, start, names)]
                odd = [names for names in choices(far) if is_odd_by_counting(web, start, names)]
                self.assertNotEqual(bool(even), bool(odd))
                word, names = told_set(web, start)
                self.assertIn(names, even if word == "lost" else odd)

    def test_some(self):
        self.assertEqual(told_set(Web(["a"], []), "a"), ("lost", ["a"]))
        self.assertEqual(told_set(Web(["b", "a"], []), "a"), ("lost", ["a"]))
        self.assertEqual(told_set(line_web("ab"), "b"), ("won", ["a"]))
        self.assertEqual(told_set(line_web("abc"), "a"), ("lost", ["a", "c"]))
        self.assertEqual(told_set(line_web("abc"), "b"), ("won", ["a"]))
        self.assertEqual(told_set(line_web("cab"), "c"), ("lost", ["c", "b"]))
        self.assertEqual(told_set(ring_web("abcd"), "c"), ("lost", ["a", "c"]))


class Whether(Case):
    def test_all_choices_of_names(self):
        for web in small_two_sided_webs()[::3]:
            for start in web.places():
                for names in choices(web.places()):
                    even = is_even_by_counting(web, start, names) and start in names
                    odd = is_odd_by_counting(web, start, names)
                    self.assertIs(is_even(web, start, names), even)
                    self.assertIs(is_odd(web, start, names[::-1]), odd)
                    self.assertIs(is_even(web, start, names[1:] + names[:1]), even)

    def test_even_sets_without_the_start(self):
        web = ring_web("abcdef")
        self.is_true(is_even(web, "a", ["c", "e", "a"]))
        web = Web(list("abcde"), [("a", "b"), ("c", "b"), ("d", "b")])
        self.is_true(is_even(web, "a", ["d", "a"]))
        self.is_false(is_even(web, "a", ["c", "d"]))
        self.is_false(is_even(web, "a", []))
        self.is_false(is_odd(web, "a", []))

    def test_sets_as_tuples_and_with_a_name_twice_and_of_the_other_side(self):
        web = ring_web("abcd")
        self.is_true(is_even(web, "a", ["a", "c"]))
        for thing in (("a", "c"), ["a", "c", "a"], ["a", "c", "b"], ["a", "c", "q"], ["a", ["c"]], ["b", "d"], "ac",
                      {"a": 1, "c": 1}, [("a", "c")], ["a", "c", None]):
            self.is_false(is_even(web, "a", thing))
        web = line_web("abcd")
        self.is_true(is_odd(web, "d", ["c", "a"]))
        self.is_true(is_odd(web, "a", ["b", "d"]))
        self.is_true(is_odd(web, "b", ["a"]))
        for thing in (("c", "a"), ["c", "a", "c"], ["c", "a", "a", "a"], ["c", "a", "d"], ["c"], ["d", "b"], ["c", "a", "q"],
                      "ca", "c", [["c", "a"]], {"c": 1, "a": 1}, [("c", "a")], ["c", "a", 0]):
            self.is_false(is_odd(web, "d", thing))

    def test_names_of_another_piece(self):
        web = Web(list("abcde"), [("a", "b"), ("b", "c"), ("d", "e")])
        self.is_true(is_even(web, "a", ["a", "c"]))
        self.is_true(is_odd(web, "b", ["c"]))
        web = web.with_place("f")
        self.is_false(is_even(web, "a", ["a", "c", "f"]))
        self.is_false(is_odd(web, "b", ["c", "f"]))
        self.is_false(is_even(web, "a", ["f"]))

    def test_things_of_every_kind(self):
        for thing in things():
            self.is_false(is_even(line_web("abc"), "a", thing))
            self.is_false(is_odd(line_web("abc"), "b", thing))
            self.is_false(is_even(Web(["a"], []), "a", thing))
            self.is_false(is_odd(Web(["a"], []), "a", thing))
            self.is_false(is_even(line_web("abc"), "a", ["a", thing, "c"]))
            self.is_false(is_odd(line_web("abc"), "b", ["a", thing]))
            self.keeps(is_even, line_web("abc"), "a", thing)
            self.keeps(is_odd, line_web("abc"), "a", thing)


class FreeSets(Case):
    def looks_at(self, web, start):
        told = free_evens(web, start)
        self.assertIs(type(told), list)
        for names in told:
            self.assertIs(type(names), list)
            self.assertNotEqual(names, [])
            self.assertEqual(names, [place for place in web.places() if place in names])
            self.assertTrue(is_even_by_counting(web, start, names))
        return told

    def sums_of(self, web, told):
        """The sum of each choice of these sets, names in order."""
        found = []
        for choice in choices(range(len(told))):
            many = [name for at in choice for name in told[at]]
            found.append(tuple(place for place in web.places() if many.count(place) % 2))
        return found

    def test_each_even_set_is_the_sum_of_just_one_choice(self):
        for web in small_two_sided_webs():
            for start in web.places():
                sums = self.sums_of(web, self.looks_at(web, start))
                near = near_and_far(web, start)[0]
                even = [tuple(names) for names in choices(near) if is_even_by_counting(web, start, names)]
                self.assertEqual(sorted(sums), sorted(even))

    def test_great_webs(self):
        for web in great_two_sided_webs():
            for start in web.places():
                told = self.looks_at(web, start)
                near = near_and_far(web, start)[0]
                even = [tuple(names) for names in choices(near) if is_even_by_counting(web, start, names)]
                self.assertEqual(1 << len(told), len(even))
                self.assertEqual(len(set(self.sums_of(web, told))), len(even))

    def test_some(self):
        self.assertEqual(free_evens(Web(["a"], []), "a"), [["a"]])
        self.assertEqual(free_evens(line_web("ab"), "a"), [])
        self.assertEqual(free_evens(line_web("abc"), "c"), [["a", "c"]])
        self.assertEqual(free_evens(line_web("abc"), "b"), [])
        star = Web(FOURTEEN, full_ties(FOURTEEN, 13))
        self.assertEqual((len(free_evens(star, "c")), len(free_evens(star, "a"))), (12, 0))


class GoodMoves(Case):
    def test_against_taking_each_tie_out(self):
        for web in small_two_sided_webs() + great_two_sided_webs()[:3]:
            for start in web.places():
                told = []
                for place in web.beside(start):
                    without = web.without_tie(start, place)
                    near = near_and_far(without, place)[0]
                    if any(place in names and is_even_by_counting(without, place, names) for names in choices(near)):
                        told.append(place)
                self.assertEqual(good_ties(web, start), told)
                self.assertEqual(told == [], told_set(web, start)[0] == "lost")

    def test_against_going_through_all_roads(self):
        for web in small_two_sided_webs():
            known = {}
            for start in web.places():
                told = [name for name, left in ways_in_order(web, start) if not road_mover_wins(left, name, known)]
                self.assertEqual(good_ties(web, start), told)

    def test_some(self):
        self.assertEqual(good_ties(Web(["a"], []), "a"), [])
        self.assertEqual(good_ties(line_web("abc"), "b"), ["a", "c"])
        self.assertEqual(good_ties(line_web("abc"), "a"), [])
        self.assertEqual(good_ties(line_web("abcd"), "b"), ["a"])

    def test_a_place_of_an_odd_set_is_good(self):
        for web in small_two_sided_webs() + great_two_sided_webs():
            for start in web.places():
                word, names = told_set(web, start)
                if word == "won":
                    beside = [place for place in web.beside(start) if place in names]
                    self.assertLessEqual(set(beside), set(good_ties(web, start)))
                    for place in beside:
                        self.is_true(is_even(web.without_tie(start, place), place, names))


def ways_in_order(web, start):
    return [(place, [tie for tie in web.ties() if set(tie) != {place, start}]) for place in web.beside(start)]


class Refused(Case):
    def calls(self, web, start):
        return [(told_set, (web, start)), (free_evens, (web, start)), (good_ties, (web, start)),
                (is_even, (web, start, ["a"])), (is_odd, (web, start, None)), (is_even, (web, start, things()))]

    def test_no_place_goes_first(self):
        for web in (line_web("abc"), Web([], []), ring_web("abc"), APART):
            for thing in things() + ["q", ["a"], ("a",)]:
                for call, args in self.calls(web, thing):
                    self.refuses(NoPlace, thing, call, *args)
        self.refuses(NoPlace, "a", told_set, Web([], []), "a")

    def looks_at_ring(self, web, ring):
        self.assertEqual((type(ring), len(ring) % 2, len(set(ring))), (list, 1, len(ring)))
        self.assertGreaterEqual(len(ring), 3)
        self.assertTrue(all(web.tied(one, other) for one, other in zip(ring, ring[1:] + ring[:1])))

    def test_an_odd_ring_in_whichever_piece(self):
        webs = [web for web in all_webs("bdac") if not is_two_sided(web)]
        for web in webs + [APART, ring_web(FOURTEEN[:13]), Web(FOURTEEN, full_ties(FOURTEEN, 30))]:
            for start in web.places():
                for call, args in self.calls(web, start):
                    self.looks_at_ring(web, self.caught(Odd, call, args).ring)

    def test_a_ring_that_a_move_would_break(self):
        self.caught(Odd, good_ties, (ring_web("abc"), "a"))
        self.caught(Odd, good_ties, (APART, "x"))

    def test_without_the_odd_piece(self):
        web = APART.without_tie("x", "y")
        for start in "abcdefg":
            self.assertEqual(told_set(web, start)[1], told_set(APART.without(["x", "y", "z"]), start)[1])

    def test_what_is_handed_in_stays_and_lists_are_new(self):
        web = line_web("abcd")
        before = web.told()
        for call, args in self.calls(web, "a") + self.calls(web, "b"):
            told = self.keeps(call, *args)
            self.assertEqual(call(*args), told)
        for tell in (lambda: told_set(web, "b")[1], lambda: good_ties(web, "b"), lambda: free_evens(line_web("abc"), "a"),
                     lambda: free_evens(line_web("abc"), "a")[0]):
            told = tell()
            kept = list(told)
            told.clear()
            self.assertEqual(tell(), kept)
        self.assertEqual(web.told(), before)

    def test_the_same_question_has_the_same_answer(self):
        for web in great_two_sided_webs():
            again = Web(web.places(), web.ties()[::-1])
            for start in web.places():
                for ask in (told_set, free_evens, good_ties):
                    self.assertEqual(ask(web, start), ask(again, start))


if __name__ == "__main__":
    unittest.main()
