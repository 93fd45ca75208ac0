"""Webs written as texts, and read again."""

from onceroad.errors import NoText
from onceroad.names import is_name
from onceroad.webs import MOST_PLACES, MOST_TIES, Web


def show_web(web):
    return "\n".join([show_line(web, place) for place in web.places()])


def show_line(web, place):
    own = web.number_of(place)
    behind = [name for name in web.beside(place) if web.number_of(name) > own]
    return " ".join([place + ":"] + behind)


def read_web(text):
    if not isinstance(text, str):
        raise NoText(0)
    if text == "":
        return Web([], [])
    lines = text.split("\n")
    numbers = first_words(lines)
    return Web(list(numbers), ties_in(lines, numbers))


def first_words(lines):
    numbers = {}
    for at, line in enumerate(lines):
        parts = line.partition(":")
        word = parts[0]
        if parts[1] == "" or not is_name(word) or word in numbers or at >= MOST_PLACES:
            raise NoText(at)
        numbers[word] = at
    return numbers


def ties_in(lines, numbers):
    ties = []
    for at, line in enumerate(lines):
        parts = line.partition(":")
        # Each name has a blank ahead, so nothing stands ahead of the first blank.
        words = parts[2].split(" ")
        if words[0] != "" or not are_farther_below(words[1:], at, numbers):
            raise NoText(at)
        ties.extend([(parts[0], name) for name in words[1:]])
        if len(ties) > MOST_TIES:
            raise NoText(at)
    return ties


def are_farther_below(names, at, numbers):
    last = at
    for name in names:
        if numbers.get(name, -1) <= last:
            return False
        last = numbers[name]
    return True
