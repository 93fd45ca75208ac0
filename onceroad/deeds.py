"""The deeds of a desk: the web and the game that are there behind each of them."""

from onceroad.eveners import Keen
from onceroad.matches import match
from onceroad.players import Best, Farthest, Nearest
from onceroad.plays import Play
from onceroad.roads import Road
from onceroad.words import read_web_line


# All that follow down to the three dicts are handed the words behind the first one, also where there are none.
def web_read(web, rest):
    return read_web_line(" ".join(rest))


def web_with_place(web, rest):
    return web.with_place(rest[0])


def web_without_place(web, rest):
    return web.without(rest)


def web_with_tie(web, rest):
    return web.with_tie(rest[0], rest[1])


def web_without_tie(web, rest):
    return web.without_tie(rest[0], rest[1])


def new_play(web, rest):
    return Play(web, rest[0])


def new_road(web, rest):
    return Road(web, rest[0])


def no_game(web, rest):
    return None


def go_on(game, rest):
    game.go(rest[0])


def go_back(game, rest):
    game.back()


def go_to_the_end(game, rest):
    match(game, player_called(rest[0], game), player_called(rest[1], game))


def player_called(word, game):
    if word == "nearest":
        return Nearest()
    if word == "farthest":
        return Farthest()
    return Best() if isinstance(game, Play) else Keen()


OF_WEB = {
    "web": web_read, "place": web_with_place, "unplace": web_without_place, "tie": web_with_tie,
    "untie": web_without_tie,
}
NEW_GAMES = {"play": new_play, "road": new_road, "stop": no_game}
OF_GAME = {"go": go_on, "back": go_back, "let": go_to_the_end}


def is_deed(word):
    return word in OF_WEB or word in NEW_GAMES or word in OF_GAME


# Told is a tuple of web and game. The game that is handed in stays as it is, so that a deed can be taken back, and so
# that one that is refused in its midst leaves nothing behind.
def done(web, game, word, rest):
    if word in OF_WEB:
        make = OF_WEB[word]
        return (make(web, rest), None)
    if word in NEW_GAMES:
        begin = NEW_GAMES[word]
        return (web, begin(web, rest))
    move = OF_GAME[word]
    twin = game.twin()
    move(twin, rest)
    return (web, twin)
