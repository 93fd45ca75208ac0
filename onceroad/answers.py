"""The answers of a desk: what is asked of a web or of a game, told as a text."""

from onceroad.bars import paper_of
from onceroad.evens import good_ties, told_set
from onceroad.greatest import count_of
from onceroad.plays import Play, all_within
from onceroad.playtext import show_play
from onceroad.roads import roads_within
from onceroad.roadtext import show_road
from onceroad.sides import sides_of
from onceroad.sorts import leaving_out, sorts
from onceroad.turning import turning_places
from onceroad.wins import chosen_by, good_moves, of_play, winner
from onceroad.words import NOTHING, names_text, text_or_nothing, ties_text, web_line

BETWEEN = " | "
NONE = "none"


def see(web, game):
    return web_line(web) + BETWEEN + game_text(game)


def game_text(game):
    if game is None:
        return NOTHING
    return "play " + show_play(game) if isinstance(game, Play) else "road " + show_road(game)


# All that follow down to the two dicts are handed the words behind the first one, also where there are none.
def tell_count(web, rest):
    return str(count_of(web))


def tell_paper(web, rest):
    paper = paper_of(web)
    return ties_text(paper[0]) + BETWEEN + names_text(paper[1])


def tell_sorts(web, rest):
    told = sorts(web)
    return text_or_nothing([place + ":" + told[place] for place in web.places()])


def tell_winner(web, rest):
    return str(winner(web, rest[0]))


def tell_good(web, rest):
    return names_text(good_moves(web, rest[0]))


def tell_chosen(web, rest):
    told = chosen_by(web, int(rest[0]))
    return str(told[0]) + " " + (NOTHING if told[1] is None else told[1])


def tell_out(web, rest):
    pairs = leaving_out(web, rest[0])
    return NONE if pairs is None else ties_text(pairs)


def tell_turns(web, rest):
    return names_text(turning_places(web, rest[0]))


def tell_sides(web, rest):
    sides = sides_of(web)
    return names_text(sides[0]) + BETWEEN + names_text(sides[1])


def tell_set(web, rest):
    told = told_set(web, rest[0])
    return told[0] + " " + names_text(told[1])


def tell_ties(web, rest):
    return names_text(good_ties(web, rest[0]))


def tell_moves(game, rest):
    return names_text(game.moves())


def tell_hand(game, rest):
    return str(game.hand())


def tell_loser(game, rest):
    return str(game.loser()) if game.ended() else NONE


def tell_rows(game, rest):
    many = int(rest[0])
    return str(all_within(game, many) if isinstance(game, Play) else roads_within(game, many))


def tell_wins(game, rest):
    if isinstance(game, Play):
        return str(of_play(game)[0])
    told = told_set(game.web_left(), game.stands_at())
    return str(game.hand() if told[0] == "won" else 1 - game.hand())


def tell_left(play, rest):
    return names_text(play.left())


def tell_best(play, rest):
    return names_text(of_play(play)[1])


OF_WEB = {
    "count": tell_count, "paper": tell_paper, "sorts": tell_sorts, "winner": tell_winner, "good": tell_good,
    "chosen": tell_chosen, "out": tell_out, "turns": tell_turns, "sides": tell_sides, "set": tell_set,
    "ties": tell_ties,
}
OF_GAME = {
    "moves": tell_moves, "hand": tell_hand, "loser": tell_loser, "rows": tell_rows, "wins": tell_wins,
    "left": tell_left, "best": tell_best,
}


def answer_to(web, game, word, rest):
    if word == "see":
        return see(web, game)
    if word in OF_WEB:
        tell = OF_WEB[word]
        return tell(web, rest)
    tell = OF_GAME[word]
    return tell(game, rest)
