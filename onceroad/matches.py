"""Matches: plays and roads that players take to their end, and all answers to a player."""

from onceroad.errors import NoNumbers, NoPlayer, TooMany
from onceroad.players import Numbered, Partner, Player
from onceroad.plays import Play
from onceroad.wins import is_hand, start_paper

MOST_PLACES_LEFT = 8


def match(play, one, other):
    must_be_player(one)
    must_be_player(other)
    players = (one, other)
    while not play.ended():
        player = players[play.hand()]
        play.go(player.choose(play))
    return 1 - play.loser()


def must_be_player(thing):
    if not isinstance(thing, Player):
        raise NoPlayer(thing)


def led(web, start, numbers):
    paper = start_paper(web, start)
    leader = Partner(web, paper[1])
    follower = Numbered(numbers)
    play = Play(web, start)
    if paper[0] == 0:
        match(play, leader, follower)
    else:
        match(play, follower, leader)
    return play


def all_answers(play, player, hand):
    must_be_player(player)
    if not is_hand(hand):
        raise NoNumbers(hand)
    many = len(play.left())
    if many > MOST_PLACES_LEFT:
        raise TooMany(many)
    return ways_on(play.twin(), player, hand)


def ways_on(play, player, hand):
    if play.ended():
        return [((), play.loser())]
    moves = [player.choose(play)] if play.hand() == hand else play.moves()
    ways = []
    for move in moves:
        play.go(move)
        ways.extend([((move,) + names, loser) for names, loser in ways_on(play, player, hand)])
        play.back()
    return ways
