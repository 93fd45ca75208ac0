"""Plays written as texts, and read again."""

from onceroad.plays import Play
from onceroad.walktext import go_along, show_walk, words_from_start


def show_play(play):
    return show_walk(play)


def read_play(web, text):
    words = words_from_start(web, text)
    play = Play(web, words[0])
    go_along(play, words)
    return play
