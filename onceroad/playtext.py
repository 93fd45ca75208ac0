"""Plays written as texts, and read again."""

from onceroad.errors import NoText
from onceroad.plays import Play


def show_play(play):
    return " > ".join(play.gone())


def read_play(web, text):
    if not isinstance(text, str):
        raise NoText(0)
    words = text.split(" > ")
    if not web.has_place(words[0]):
        raise NoText(0)
    play = Play(web, words[0])
    for at, word in enumerate(words[1:], start=1):
        if word not in play.moves():
            raise NoText(at)
        play.go(word)
    return play
