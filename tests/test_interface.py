"""The interface: everything is there under its name, with the arguments that are told."""

import inspect
import unittest
from importlib import import_module

FUNCTIONS = """
names: is_whole(thing) is_within(thing, low, high) is_name(thing)
webtext: show_web(web) read_web(text)
plays: played(web, names) rows_within(play, many) all_within(play, many)
playtext: show_play(play) read_play(web, text)
pairs: are_pairs(web, thing) told_pairs(web, pairs) partner_of(web, pairs, place) singles(web, pairs)
pairs: are_alike(web, one, other)
rows: is_row(web, pairs, thing) can_turn(web, pairs, thing) turned(web, pairs, row) between(web, one, other)
sides: sides_of(web) greatest_by_sides(web) shows_cover(web, thing)
greatest: greatest(web) count_of(web) greatest_from(web, pairs)
bars: pieces_beside(web, bar) odd_pieces(web, bar) lack_of(web, bar) paper_of(web) shows(web, thing) is_bar(web, thing)
bars: parts_of(web, pairs, bar)
sorts: sort_of(web, place) sorts(web) loose(web) held(web) fast(web) leaving_out(web, place)
sorts: leaving_both(web, one, other) row_out(web, pairs, place) piece_pairs(web, place)
wins: winner(web, start) winners(web) start_paper(web, start) holds(web, start, thing) good_moves(web, start)
wins: good_starts(web) chosen_by(web, hand) of_play(play)
matches: match(play, one, other) led(web, start, numbers) all_answers(play, player, hand)
turning: turning_places(web, start) turning_ties(web, start) turning_new_ties(web, start) ties_for_a_pair(web)
roads: roads_within(road, many)
roadtext: show_road(road) read_road(web, text)
sums: picks(numbers, goal) free_of(numbers)
evens: told_set(web, start) is_even(web, start, thing) is_odd(web, start, thing) free_evens(web, start)
evens: good_ties(web, start)
eveners: road_led(web, start, numbers) road_answers(road, player, hand)
words: names_text(names) ties_text(ties) web_line(web) read_names(text) read_ties(text) read_web_line(text)
words: words_of(line)
"""

CLASSES = """
errors.OnceError(text): -
errors.NoName(found): -
errors.Twice(name): -
errors.NoPlace(found): -
errors.NoTie(found): -
errors.TooMany(many): -
errors.NoText(at): -
errors.NoPairs(found): -
errors.NoRow(found): -
errors.Odd(ring): -
errors.NoMove(found): -
errors.NoBack(): -
errors.NoBar(found): -
errors.NoPlayer(found): -
errors.NoNumbers(found): -
errors.NoLine(found): -
webs.Web(names, ties): places() ties() how_many() number_of(place) beside(place) bits_beside(place) tied(one, other) \
pieces() told() without(places) with_place(place) with_tie(one, other) without_tie(one, other)
plays.Play(web, start): web() stands_at() gone() left() moves() hand() ended() loser() web_left() position() go(name) \
back() twin()
forests.Forest(web, pairs): row() reached() row_to(place) folds()
players.Partner(web, pairs): choose(play)
players.Nearest(): choose(play)
players.Farthest(): choose(play)
players.Numbered(numbers): choose(play)
players.By(function): choose(play)
players.Best(): choose(play)
kept.Kept(web): whole() web() blocked() pairs() twin() place_in(place) place_out(place) block(place) unblock(place) \
tie_in(one, other) tie_out(one, other) undo()
roads.Road(web, start): web() stands_at() gone() ties_gone() ties_left() moves() hand() ended() loser() web_left() \
go(place) back() twin()
eveners.Evener(names): choose(road)
eveners.Keen(): choose(road)
desk.Desk(): ask(line) run(lines)
"""


def told(text):
    """Names with their arguments, of a text of such."""
    parts = [part.partition("(") for part in text.split(")") if part.strip()]
    return [(name.strip(), arguments.split(", ") if arguments else []) for name, _, arguments in parts]


def arguments_of(call):
    return [name for name in inspect.signature(call).parameters if name != "self"]


class Interface(unittest.TestCase):
    def test_functions(self):
        for line in FUNCTIONS.strip().split("\n"):
            module, _, names = line.partition(": ")
            for name, arguments in told(names):
                call = getattr(import_module("onceroad." + module), name)
                self.assertEqual((call.__module__, arguments_of(call)), ("onceroad." + module, arguments))

    def test_classes(self):
        for line in CLASSES.strip().split("\n"):
            made, _, methods = line.partition(": ")
            [(name, arguments)] = told(made)
            module, _, name = name.partition(".")
            kind = getattr(import_module("onceroad." + module), name)
            self.assertEqual((kind.__module__, arguments_of(kind)), ("onceroad." + module, arguments), name)
            for method, taken in told(methods) if methods != "-" else []:
                self.assertEqual(arguments_of(getattr(kind, method)), taken, (name, method))


if __name__ == "__main__":
    unittest.main()
