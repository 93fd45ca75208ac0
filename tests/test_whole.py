"""[1], [7], [8], [9]: what the modules tell of the same web, held against one another.

All small webs are looked at, and each one again with its places in another order and with other names.
"""

import unittest
from itertools import combinations

from helper import Case, all_webs, full_ties, is_two_sided, mixed, mixed_webs, most_pairs, ring_web, two_sided_webs
from onceroad.bars import is_bar, lack_of, odd_pieces, paper_of, parts_of, shows
from onceroad.desk import Desk
from onceroad.errors import Odd
from onceroad.evens import free_evens, good_ties, is_even, is_odd, told_set
from onceroad.eveners import Evener, Keen, road_answers
from onceroad.forests import Forest
from onceroad.greatest import count_of, greatest
from onceroad.kept import Kept
from onceroad.matches import all_answers
from onceroad.pairs import partner_of, singles
from onceroad.players import Best, Partner
from onceroad.plays import Play
from onceroad.roads import Road
from onceroad.sides import greatest_by_sides, shows_cover, sides_of
from onceroad.sorts import fast, held, leaving_both, leaving_out, loose, row_out, sorts
from onceroad.turning import ties_for_a_pair, turning_new_ties, turning_places, turning_ties
from onceroad.webs import Web
from onceroad.wins import chosen_by, good_moves, good_starts, holds, of_play, start_paper, winner, winners
from onceroad.words import read_names, read_ties, read_web_line, web_line


def small_webs():
    """All webs of none to four places, some of five, and a few of more."""
    found = [web for many in range(5) for web in all_webs("bdac"[:many])]
    found += list(all_webs("ecadb"))[::23]
    return found + mixed_webs(4, 7, 9) + two_sided_webs(4, 7, 8) + [ring_web("abcde"), Web(list("abcdef"), full_ties("abcd", 6))]


def other_web(web, turn):
    """The same web, its places in another order and with other names; and the other name of each place."""
    others = dict(zip(web.places(), mixed(["x", "yy", "zzz", "pq", "mmmmmm", "k", "abc"], turn)))
    ties = [(others[other], others[one]) for one, other in mixed(web.ties(), turn)]
    return Web(mixed(others.values(), turn + 1), ties), others


def not_tied(web):
    return [two for two in combinations(web.places(), 2) if two not in web.ties()]


class Papers(Case):
    def test_paper_sorts_and_forests(self):
        for web in small_webs():
            pairs, bar = paper_of(web)
            self.is_true(shows(web, (pairs, bar)))
            self.is_true(is_bar(web, bar))
            self.assertEqual(len(singles(web, pairs)), lack_of(web, bar))
            self.assertEqual((len(pairs), len(pairs)), (count_of(web), most_pairs(web)))
            self.assertEqual(bar, held(web))
            self.assertEqual(sorted(sum(odd_pieces(web, bar), [])), sorted(loose(web)))
            forest = Forest(web, pairs)
            self.assertEqual((forest.row(), forest.reached()), (None, loose(web)))
            for place in web.places():
                free = sorts(web)[place] == "loose"
                told = (leaving_out(web, place), forest.row_to(place), row_out(web, pairs, place))
                self.assertEqual([one is not None for one in told], [free] * 3)

    def test_the_sorts_hang_on_the_web_alone(self):
        for web in small_webs():
            free = [place for place in web.places() if count_of(web.without([place])) == count_of(web)]
            beside = [place for place in web.places() if place not in free and set(web.beside(place)) & set(free)]
            rest = [place for place in web.places() if place not in free + beside]
            self.assertEqual((loose(web), held(web), fast(web)), (free, beside, rest))

    def test_parts_of_papers(self):
        for web in small_webs():
            pairs, bar = paper_of(web)
            words = [word for _, word, _ in parts_of(web, pairs, bar)]
            self.assertEqual(words.count("single"), len(singles(web, pairs)))
            self.assertEqual(words.count("bar"), len(bar))


class Wins(Case):
    def test_winners(self):
        for web in small_webs():
            self.assertEqual(good_starts(web), [place for place in web.places() if winners(web)[place] == 1])
            for start in web.places():
                hand, pairs, bar = start_paper(web, start)
                self.is_true(holds(web, start, (hand, pairs, bar)))
                self.is_true(shows(web, (pairs, bar)))
                self.assertEqual((hand, hand), (winner(web, start), 1 if sorts(web)[start] == "loose" else 0))
                self.assertEqual(of_play(Play(web, start)), (hand, good_moves(web, start)))
                if hand == 1:
                    self.assertIn(start, singles(web, pairs))
                else:
                    self.assertIn(partner_of(web, greatest(web), start), good_moves(web, start))
            for hand in (0, 1):
                wins, start, pairs = chosen_by(web, hand)
                self.assertEqual(wins == hand, good_starts(web) != [])
                self.assertEqual(len(pairs), count_of(web))
                self.assertEqual(singles(web, pairs) == [], start is None)

    def test_against_whatever_answers(self):
        for web in small_webs():
            for start in web.places():
                hand, pairs, _ = start_paper(web, start)
                for player in (Partner(web, pairs), Best()):
                    ways = all_answers(Play(web, start), player, hand)
                    self.assertEqual({loser for _, loser in ways}, {1 - hand})

    def test_in_the_midst_of_a_play(self):
        for web in small_webs()[::3]:
            for start in web.places():
                play = Play(web, start)
                while not play.ended():
                    play.go(play.moves()[-1])
                    hand, names = of_play(play)
                    first = winner(play.web_left(), play.stands_at())
                    self.assertEqual(hand, play.hand() if first == 0 else 1 - play.hand())
                    self.assertEqual(names, good_moves(play.web_left(), play.stands_at()))


class Turning(Case):
    def turned(self, web, deed, args):
        """The starts that turn by a deed of a kept web, and how many pairs more there are behind it."""
        kept = Kept(web)
        ahead, behind, places = getattr(kept, deed)(*args)
        self.assertEqual((len(ahead), len(behind)), (count_of(web), count_of(kept.web())))
        self.assertEqual((kept.undo(), kept.web().told()), ((behind, ahead, self.in_order(web, places)), web.told()))
        return places, len(behind) - len(ahead)

    def in_order(self, web, places):
        return [place for place in web.places() if place in places]

    def told_for(self, web, tell, change):
        """The starts that are told to turn by this change."""
        return [start for start in web.places() if change in tell(web, start)]

    def test_places(self):
        for web in small_webs():
            for place in web.places():
                places, more = self.turned(web, "place_out", (place,))
                self.assertEqual(self.told_for(web, turning_places, place), places)
                self.assertEqual(self.turned(web, "block", (place,)), (places, more))
                self.assertEqual(more, 0 if sorts(web)[place] == "loose" else -1)
            self.assertEqual(self.turned(web, "place_in", ("new",)), ([], 0))

    def test_ties(self):
        for web in small_webs():
            for tie in web.ties():
                places, more = self.turned(web, "tie_out", tie)
                self.assertEqual(self.told_for(web, turning_ties, tie), places)
                self.assertEqual(more, -1 if tie in ties_for_a_pair(web.without_tie(*tie)) else 0)
            for two in not_tied(web):
                places, more = self.turned(web, "tie_in", two)
                self.assertEqual(self.told_for(web, turning_new_ties, two), places)
                self.assertEqual((more == 1, more in (0, 1)), (two in ties_for_a_pair(web), True))
                self.assertEqual(leaving_both(web, *two) is not None, more == 1)
                behind = winners(web.with_tie(*two))
                self.assertTrue(all(behind[place] == (0 if more else 1) for place in places))
                self.assertTrue(not more or (behind[two[0]], behind[two[1]]) == (0, 0))


class Sides(Case):
    def test_webs_with_and_without_two_sides(self):
        for web in small_webs():
            if not is_two_sided(web):
                ring = self.caught(Odd, sides_of, (web,)).ring
                for start in web.places():
                    for ask in (told_set, free_evens, good_ties):
                        self.refuses_with(Odd, ring, ask, web, start)
                    self.refuses_with(Odd, ring, Keen().choose, Road(web, start))
                continue
            pairs, cover = greatest_by_sides(web)
            self.is_true(shows_cover(web, (pairs, cover)))
            self.assertEqual((len(pairs), len(cover)), (count_of(web), count_of(web)))

    def test_even_and_odd_sets(self):
        for web in [web for web in small_webs() if is_two_sided(web)]:
            for start in web.places():
                word, names = told_set(web, start)
                lost = word == "lost"
                self.assertEqual((is_even(web, start, names), is_odd(web, start, names)), (lost, not lost))
                self.assertEqual(any(start in one for one in free_evens(web, start)), lost)
                self.assertEqual(good_ties(web, start) == [], lost)
                told = [place for place in web.beside(start)
                        if told_set(web.without_tie(start, place), place)[0] == "lost"]
                self.assertEqual(good_ties(web, start), told)
                for player in (Evener(names), Keen()):
                    ways = road_answers(Road(web, start), player, 1 if lost else 0)
                    self.assertEqual({loser for _, loser in ways}, {0 if lost else 1})


class OtherOrderAndNames(Case):
    def test_the_same_is_told(self):
        for turn, web in enumerate(small_webs()):
            other, names = other_web(web, turn)
            self.assertEqual(count_of(other), count_of(web))
            self.assertEqual(sorts(other), {names[place]: sort for place, sort in sorts(web).items()})
            self.assertEqual(winners(other), {names[place]: hand for place, hand in winners(web).items()})
            self.assertEqual(set(paper_of(other)[1]), {names[place] for place in paper_of(web)[1]})
            self.assertEqual(is_two_sided(other), is_two_sided(web))
            self.same_ties(names, ties_for_a_pair(web), ties_for_a_pair(other))
            for start in web.places():
                self.same_from(web, other, names, start)

    def same_places(self, names, ones, others):
        self.assertEqual({names[place] for place in ones}, set(others))
        self.assertEqual(len(ones), len(others))

    def same_ties(self, names, ones, others):
        self.assertEqual({frozenset((names[one], names[other])) for one, other in ones}, set(map(frozenset, others)))
        self.assertEqual(len(ones), len(others))

    def same_from(self, web, other, names, start):
        self.same_places(names, good_moves(web, start), good_moves(other, names[start]))
        self.same_places(names, turning_places(web, start), turning_places(other, names[start]))
        self.same_ties(names, turning_ties(web, start), turning_ties(other, names[start]))
        self.same_ties(names, turning_new_ties(web, start), turning_new_ties(other, names[start]))
        if is_two_sided(web):
            self.assertEqual(told_set(web, start)[0], told_set(other, names[start])[0])
            self.assertEqual(len(free_evens(web, start)), len(free_evens(other, names[start])))
            self.same_places(names, good_ties(web, start), good_ties(other, names[start]))
            word, found = told_set(web, start)
            self.is_true((is_even if word == "lost" else is_odd)(other, names[start], [names[place] for place in found]))

    def test_papers_go_over(self):
        for turn, web in enumerate(small_webs()):
            other, names = other_web(web, turn)
            pairs, bar = paper_of(web)
            there = ([(names[one], names[two]) for one, two in pairs], [names[place] for place in bar])
            self.is_true(shows(other, there))
            self.assertIsNone(Forest(other, there[0]).row())
            for start in web.places():
                hand, pairs, bar = start_paper(web, start)
                pairs = [(names[one], names[two]) for one, two in pairs]
                self.is_true(holds(other, names[start], (hand, pairs, [names[place] for place in bar])))


class Desks(Case):
    def test_a_desk_tells_of_the_web_what_the_modules_show(self):
        for web in small_webs():
            desk = Desk()
            seen = desk.ask("web " + web_line(web))
            self.assertEqual(read_web_line(seen.partition(" | ")[0]).told(), web.told())
            pairs, _, bar = desk.ask("paper").partition(" | ")
            self.is_true(shows(web, (read_ties(pairs), read_names(bar))))
            self.assertEqual(desk.ask("count"), str(len(read_ties(pairs))))
            for start in web.places():
                out = desk.ask("out " + start)
                self.assertEqual(out == "none", desk.ask("winner " + start) == "0")
                if out != "none":
                    self.assertIn(start, singles(web, read_ties(out)))
                    self.assertEqual(str(len(read_ties(out))), desk.ask("count"))
                if is_two_sided(web):
                    word, _, found = desk.ask("set " + start).partition(" ")
                    self.is_true((is_even if word == "lost" else is_odd)(web, start, read_names(found)))
                    desk.ask("road " + start)
                    self.assertEqual(desk.ask("wins"), "1" if word == "lost" else "0")
                    hand = desk.ask("wins")
                    desk.ask("let rule nearest" if hand == "0" else "let farthest rule")
                    self.assertEqual(desk.ask("loser"), "1" if hand == "0" else "0")
                desk.ask("play " + start)
                hand = desk.ask("wins")
                self.assertEqual(hand, desk.ask("winner " + start))
                desk.ask("let rule nearest" if hand == "0" else "let farthest rule")
                self.assertEqual(desk.ask("loser"), "1" if hand == "0" else "0")


if __name__ == "__main__":
    unittest.main()
