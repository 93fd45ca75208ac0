"""[5], [8], [70], [71], [72], [73], [74], [75]: who wins, from where, by which moves, and papers of starts."""

import unittest
from itertools import combinations

from helper import FOURTEEN, Case, all_pairs, all_plays, all_told, all_webs, copied, full_ties, greatest_by_trying, line_web
from helper import loose_by_counting, mixed_webs, most_pairs, mover_wins, ring_web, things, told_webs
from onceroad.errors import NoNumbers, NoPlace
from onceroad.pairs import are_pairs, partner_of, singles, told_pairs
from onceroad.plays import Play, played
from onceroad.webs import Web
from onceroad.wins import chosen_by, good_moves, good_starts, holds, of_play, start_paper, winner, winners


def small_webs():
    return list(all_webs("bdac")) + list(all_webs("cebad"))[::7] + mixed_webs(10, 6, 8) + mixed_webs(5, 7, 9)


def star():
    """The place m, tied to a, b, c and d, of which d is tied to e."""
    return Web(list("abmcde"), [("m", "a"), ("m", "b"), ("c", "m"), ("d", "m"), ("e", "d")])


def is_start_paper(web, start, hand, pairs, bar):
    """What the document says of a paper of a start, for pairs and a bar that are such."""
    odd = [piece for piece in web.without(bar).pieces() if len(piece) % 2]
    if len(odd) - len(bar) != web.how_many() - 2 * len(pairs):
        return False
    if hand == 1:
        return not any(start in pair for pair in pairs)
    return not any(start in piece for piece in odd)


class Winners(Case):
    def test_some_webs(self):
        self.assertEqual(winners(Web([], [])), {})
        self.assertEqual(winners(Web(["b", "a"], [])), {"b": 1, "a": 1})
        self.assertEqual(winners(line_web("ab")), {"a": 0, "b": 0})
        self.assertEqual(winners(line_web("abc")), {"a": 1, "b": 0, "c": 1})
        self.assertEqual(winners(star()), {"a": 1, "b": 1, "m": 0, "c": 1, "d": 0, "e": 0})
        self.assertEqual([winner(ring_web("abc"), "a"), winner(ring_web("abcd"), "a")], [1, 0])
        self.assertIs(type(winner(line_web("ab"), "a")), int)

    def test_by_all_plays_of_small_webs(self):
        for web in small_webs():
            known = {}
            hands = {place: 0 if mover_wins(Play(web, place), known) else 1 for place in web.places()}
            self.assertEqual(winners(web), hands)
            self.assertEqual(list(winners(web)), web.places())
            self.assertEqual([winner(web, place) for place in web.places()], list(hands.values()))

    def test_larger_webs(self):
        for web in told_webs():
            free = loose_by_counting(web)
            self.assertEqual(winners(web), {place: 1 if place in free else 0 for place in web.places()})
            self.assertEqual([winner(web, place) for place in web.places()], list(winners(web).values()))

    def test_no_place(self):
        for thing in things() + ["q", ["a"], ("a",)]:
            for web in (line_web("abc"), Web([], [])):
                self.refuses(NoPlace, thing, winner, web, thing)


class Papers(Case):
    def looks_at(self, web, start):
        paper = start_paper(web, start)
        self.assertEqual((type(paper), len(paper), type(paper[0])), (tuple, 3, int))
        hand, pairs, bar = paper
        self.assertEqual(hand, winner(web, start))
        self.is_true(are_pairs(web, pairs))
        self.assertEqual((pairs, len(pairs)), (told_pairs(web, pairs), most_pairs(web)))
        self.assertIs(type(bar), list)
        self.assertEqual(len(bar), len(set(bar) & set(web.places())))
        self.assertTrue(is_start_paper(web, start, hand, pairs, bar))
        self.is_true(holds(web, start, paper))
        self.is_true(holds(web, start, (hand, [(other, one) for one, other in pairs[::-1]], bar[::-1])))
        self.is_false(holds(web, start, (1 - hand, pairs, bar)))

    def test_papers_by_their_own_counts(self):
        for web in small_webs() + told_webs():
            for start in web.places():
                self.looks_at(web, start)

    def test_some_papers(self):
        self.assertEqual(start_paper(Web(["a"], []), "a"), (1, [], []))
        self.assertEqual(start_paper(line_web("ab"), "b")[:2], (0, [("a", "b")]))
        self.assertEqual(start_paper(line_web("abc"), "a")[:2], (1, [("b", "c")]))

    def test_all_hands_pairs_and_bars_of_small_webs(self):
        for web in list(all_webs("bdac"))[::2]:
            bars = [list(bar) for many in range(5) for bar in combinations("cabd", many)]
            for start in "abcd":
                wins = winner(web, start)
                for pairs in all_pairs(web):
                    for bar in bars:
                        for hand in (0, 1):
                            told = holds(web, start, (hand, pairs, bar))
                            self.assertIs(told, is_start_paper(web, start, hand, pairs, bar))
                            self.assertTrue(not told or hand == wins)

    def test_one_thing_put_otherwise(self):
        web = star()
        pairs, bar = [("m", "a"), ("e", "d")], ["m"]
        self.is_true(holds(web, "b", (1, pairs, bar)))
        self.is_true(holds(web, "m", (0, pairs, bar)))
        self.is_true(holds(web, "d", (0, pairs, bar)))
        self.is_true(holds(web, "d", (0, pairs, ["m", "d"])))
        self.is_false(holds(web, "e", (0, pairs, ["m", "d"])))
        self.is_false(holds(web, "a", (1, pairs, bar)))
        self.is_false(holds(web, "a", (0, pairs, bar)))
        for start, hand in (("b", 1), ("m", 0)):
            for thing in ([hand, pairs, bar], (hand, pairs), (hand, pairs, bar, bar), (pairs, bar), (pairs, bar, hand),
                          (hand == 1, pairs, bar), (str(hand), pairs, bar), (2, pairs, bar), (-1, pairs, bar),
                          (None, pairs, bar), ([hand], pairs, bar), (1 - hand, pairs, bar), (hand, tuple(pairs), bar),
                          (hand, pairs, tuple(bar)), (hand, pairs, "m"), (hand, pairs, {"m": 1}), (hand, pairs, []),
                          (hand, pairs, ["m", "m"]), (hand, pairs, ["q"]), (hand, pairs[:1], bar), (hand, [], bar),
                          (hand, pairs + pairs, bar), (hand, [["m", "a"], ("e", "d")], bar), (hand, (pairs, bar)), ()):
                self.is_false(holds(web, start, thing))

    def test_of_any_thing(self):
        web = star()
        pairs = [("m", "a"), ("e", "d")]
        for thing in things():
            self.is_false(holds(web, "b", thing))
            self.is_false(holds(web, "b", (1, thing, ["m"])))
            self.is_false(holds(web, "b", (1, pairs, thing)))
            self.is_false(holds(web, "b", (1, pairs, ["m", thing])))
            whole = isinstance(thing, int) and not isinstance(thing, bool)
            self.assertIs(holds(web, "b", (thing, pairs, ["m"])), whole and thing == 1)
            self.assertIs(holds(web, "m", (thing, pairs, ["m"])), whole and thing == 0)

    def test_no_place(self):
        web = line_web("abc")
        for thing in things() + ["q", ["a"], ("a",)]:
            self.refuses(NoPlace, thing, start_paper, web, thing)
            self.refuses(NoPlace, thing, start_paper, Web([], []), thing)
            for other in (start_paper(web, "a"), None, (), 1, (1, None, ["q"])):
                self.refuses(NoPlace, thing, holds, web, thing, other)


class Good(Case):
    def test_moves_by_all_plays_of_small_webs(self):
        for web in small_webs():
            known = {}
            for start in web.places():
                good = [move for move in web.beside(start) if not mover_wins(played(web, [start, move]), known)]
                self.assertEqual(good_moves(web, start), good)
                self.assertEqual(good == [], winner(web, start) == 1)

    def test_the_partner_in_any_greatest_pairs_is_a_good_move(self):
        for web in list(all_webs("bdac")) + mixed_webs(10, 6, 7):
            for pairs in greatest_by_trying(web):
                for start in web.places():
                    if winner(web, start) == 0:
                        self.assertIn(partner_of(web, pairs, start), good_moves(web, start))

    def test_some_moves(self):
        self.assertEqual(good_moves(star(), "m"), ["a", "b", "c"])
        self.assertEqual(good_moves(star(), "d"), ["e"])
        self.assertEqual(good_moves(star(), "a"), [])
        self.assertEqual(good_moves(Web(["a"], []), "a"), [])
        self.assertEqual(good_moves(line_web(FOURTEEN), "g"), ["h"])
        self.assertEqual(good_moves(Web(list("dcba"), full_ties("abcd", 6)), "b"), ["d", "c", "a"])

    def test_no_place(self):
        for thing in things() + ["q", ["a"], ("a",)]:
            self.refuses(NoPlace, thing, good_moves, line_web("abc"), thing)
            self.refuses(NoPlace, thing, good_moves, Web([], []), thing)

    def test_starts(self):
        self.assertEqual(good_starts(star()), ["a", "b", "c"])
        self.assertEqual((good_starts(Web([], [])), good_starts(line_web("ab"))), ([], []))
        for web in small_webs() + told_webs():
            self.assertEqual(good_starts(web), [place for place in web.places() if winner(web, place) == 1])


class Chosen(Case):
    def looks_at(self, web, hand):
        told = chosen_by(web, hand)
        self.assertEqual((type(told), len(told), type(told[0])), (tuple, 3, int))
        wins, start, pairs = told
        self.is_true(are_pairs(web, pairs))
        self.assertEqual((pairs, len(pairs)), (told_pairs(web, pairs), most_pairs(web)))
        good = loose_by_counting(web)
        if good:
            self.assertEqual((wins, start), (hand, good[0]))
            self.assertIn(start, singles(web, pairs))
        else:
            self.assertEqual((wins, start, singles(web, pairs)), (1 - hand, None, []))

    def test_who_wins_where_the_start_is_chosen(self):
        for web in small_webs() + told_webs():
            for hand in (0, 1):
                self.looks_at(web, hand)

    def test_the_edges(self):
        self.assertEqual((chosen_by(Web([], []), 0), chosen_by(Web([], []), 1)), ((1, None, []), (0, None, [])))
        self.assertEqual(chosen_by(Web(["b", "a"], []), 1), (1, "b", []))
        self.assertEqual(chosen_by(line_web("ab"), 0), (1, None, [("a", "b")]))
        self.assertEqual(chosen_by(line_web("abc"), 0), (0, "a", [("b", "c")]))

    def test_no_hand(self):
        for thing in [thing for thing in things() if isinstance(thing, bool) or thing not in (0, 1)] + [2, -1, "0", [0]]:
            self.refuses(NoNumbers, thing, chosen_by, star(), thing)
            self.refuses(NoNumbers, thing, chosen_by, Web([], []), thing)
        self.refuses(NoNumbers, True, chosen_by, star(), True)
        self.refuses(NoNumbers, False, chosen_by, star(), False)


class OfPlay(Case):
    def test_by_all_plays_of_small_webs(self):
        for web in list(all_webs("bdac"))[::2] + list(all_webs("cebad"))[::60] + mixed_webs(3, 6, 8):
            known = {}
            for start in web.places():
                for play in all_plays(web, start):
                    self.looks_at(play, known)

    def looks_at(self, play, known):
        good = []
        for move in play.moves():
            twin = play.twin()
            twin.go(move)
            if not mover_wins(twin, known):
                good.append(move)
        told = of_play(play)
        self.assertEqual(told, (play.hand() if good else 1 - play.hand(), good))
        self.assertEqual((type(told), type(told[0])), (tuple, int))

    def test_plays_in_the_midst_and_at_their_end(self):
        play = Play(line_web("abcd"), "b")
        self.assertEqual(of_play(play), (0, ["a"]))
        play.go("c")
        self.assertEqual(of_play(play), (1, ["d"]))
        play.go("d")
        self.assertEqual((play.loser(), of_play(play)), (0, (1, [])))
        self.assertEqual(of_play(Play(Web(["a"], []), "a")), (1, []))
        self.assertEqual(of_play(played(line_web("ab"), ["a", "b"])), (0, []))

    def test_the_play_stays_as_it_is(self):
        play = played(ring_web("abcde"), ["b", "c"])
        before = all_told(play)
        of_play(play)[1].append("q")
        self.assertEqual(all_told(play), before)
        self.assertEqual(of_play(play), of_play(play.twin()))

    def test_webs_of_fourteen_places(self):
        for web in told_webs():
            for start in web.places():
                self.assertEqual(of_play(Play(web, start)), (winner(web, start), good_moves(web, start)))


class ToThePartner(Case):
    def goes_on(self, play, partners, hand):
        """Whoever goes to the partner is never without a move, whatever the other hand does."""
        if play.hand() == hand:
            moves = [partners.get(play.stands_at())]
            self.assertIn(moves[0], play.moves())
        else:
            moves = play.moves()
        for move in moves:
            play.go(move)
            self.goes_on(play, partners, hand)
            play.back()

    def test_against_all_answers(self):
        for web in list(all_webs("bdac"))[::3] + mixed_webs(6, 6, 8) + mixed_webs(4, 8, 10):
            for pairs in greatest_by_trying(web):
                partners = dict(pairs + [(other, one) for one, other in pairs])
                for start in web.places():
                    if winner(web, start) == 0:
                        self.goes_on(Play(web, start), partners, 0)
                    elif start not in partners:
                        self.goes_on(Play(web, start), partners, 1)


class Copies(Case):
    def test_what_is_handed_in_stays(self):
        web = star()
        for thing in things() + ["a", "m", (1, [("m", "a"), ("e", "d")], ["m"])]:
            for call in (winner, start_paper, good_moves, chosen_by):
                self.keeps(call, web, thing)
            self.keeps(holds, web, thing, thing)
            self.keeps(holds, web, "b", thing)
        self.assertEqual(web.told(), star().told())

    def test_each_told_list_and_dict_is_a_new_one(self):
        web = star()
        for call in (lambda: [winners(web)], lambda: [good_moves(web, "m")], lambda: [good_starts(web)],
                     lambda: start_paper(web, "a")[1:], lambda: start_paper(web, "m")[1:],
                     lambda: chosen_by(web, 0)[2:], lambda: chosen_by(line_web("ab"), 0)[2:]):
            before = copied(call())
            for told in call():
                told.clear()
            self.assertEqual(call(), before)

    def test_the_same_question_has_the_same_answer(self):
        for web in told_webs():
            again = Web(web.places(), [(other, one) for one, other in reversed(web.ties())])
            for start in web.places():
                self.assertEqual(start_paper(web, start), start_paper(again, start))
            self.assertEqual(chosen_by(web, 0), chosen_by(again, 0))


if __name__ == "__main__":
    unittest.main()
