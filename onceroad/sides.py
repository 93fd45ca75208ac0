"""Webs of two sides: the sides or an odd ring, and pairs and covers that are as many."""

from onceroad.errors import Odd
from onceroad.greatest import greatest
from onceroad.pairs import are_pairs
from onceroad.rows import are_unlike_places
from onceroad.sorts import sorts


def sides_of(web):
    ways = ways_in(web)
    for one, other in web.ties():
        if on_first_side(ways[one]) == on_first_side(ways[other]):
            raise Odd(ring_of(ways[one], ways[other]))
    ones = [place for place in web.places() if on_first_side(ways[place])]
    others = [place for place in web.places() if not on_first_side(ways[place])]
    return (ones, others)


def on_first_side(way):
    return len(way) % 2 == 1


# For each place a way to it from the first place of its piece; all ways of a piece together are a tree.
def ways_in(web):
    ways = {}
    for place in web.places():
        if place not in ways:
            ways[place] = [place]
            spread_from(web, place, ways)
    return ways


def spread_from(web, start, ways):
    waiting = [start]
    while len(waiting) > 0:
        place = waiting.pop(0)
        for other in web.beside(place):
            if other not in ways:
                ways[other] = ways[place] + [other]
                waiting.append(other)


# Two ways of one tree that a tie joins at their ends: the ring begins where they part.
def ring_of(one, other):
    both = len([place for place in one if place in other])
    return one[both - 1:] + other[both:][::-1]


def greatest_by_sides(web):
    first = sides_of(web)[0]
    words = sorts(web)
    # On two sides no two loose places are tied, so each tie has a held place or is between two fast ones. Each held
    # place has a partner that is not in the cover, each fast one a fast partner on the other side: so these are as
    # many as the pairs.
    cover = [place for place in web.places() if in_cover(words[place], place in first)]
    return (greatest(web), cover)


def in_cover(word, first):
    return word == "held" or (word == "fast" and first)


def shows_cover(web, thing):
    if not isinstance(thing, tuple) or len(thing) != 2:
        return False
    if not are_pairs(web, thing[0]) or not is_cover(web, thing[1]):
        return False
    return len(thing[0]) == len(thing[1])


def is_cover(web, thing):
    if not are_unlike_places(web, thing):
        return False
    return all([tie[0] in thing or tie[1] in thing for tie in web.ties()])
