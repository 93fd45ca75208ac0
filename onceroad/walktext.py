"""Walks written as texts, and read again: what the texts of plays and of roads have in common."""

from onceroad.errors import NoText


def show_walk(walk):
    return " > ".join(walk.gone())


def words_from_start(web, text):
    if not isinstance(text, str):
        raise NoText(0)
    words = text.split(" > ")
    if not web.has_place(words[0]):
        raise NoText(0)
    return words


# The walk stands at its start, which is the first word.
def go_along(walk, words):
    for at, word in enumerate(words[1:], start=1):
        if word not in walk.moves():
            raise NoText(at)
        walk.go(word)
