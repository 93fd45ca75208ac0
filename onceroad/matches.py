"""Matches: plays and roads that players take to their end, and all answers to a player."""

from onceroad.errors import NoNumbers, NoPlayer, TooMany
from onceroad.players import Numbered, Partner, Player
from onceroad.plays import Play
from onceroad.wins import is_hand, start_paper

MOST_PLACES_LEFT = 8


def match(play, one, other):
    must_be_player(one)
    must_be_player(other)
    players = (one, other)
    while not play.ended():
        player = players[play.hand()]
        play.go(player.choose(play))
    return 1 - play.loser()


def must_be_player(thing):
    if not isinstance(thing, Player):
        raise NoPlayer(thing)


def led(web, start, numbers):
    paper = start_paper(web, start)
    play = Play(web, start)
    lead(play, paper[0], Partner(web, paper[1]), Numbered(numbers))
    return play


# A match in which the first of the two players moves for this hand.
def lead(play, hand, leader, follower):
    if hand == 0:
        match(play, leader, follower)
    else:
        match(play, follower, leader)


def all_answers(play, player, hand):
    return answers_within(play, player, hand, len(play.left()), MOST_PLACES_LEFT)


# Of a play or a road, with how many places, or ties, are left of it and how many may be.
def answers_within(play, player, hand, many, most):
    must_be_player(player)
    if not is_hand(hand):
        raise NoNumbers(hand)
    if many > most:
        raise TooMany(many)
    return ways_on(play.twin(), player, hand)


def ways_on(play, player, hand):
    if play.ended():
        return [((), play.loser())]
    moves = [player.choose(play)] if play.hand() == hand else play.moves()
    ways = []
    for move in moves:
        play.go(move)
        ways.extend([((move,) + names, loser) for names, loser in ways_on(play, player, hand)])
        play.back()
    return ways
