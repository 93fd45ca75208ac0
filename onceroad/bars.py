"""Bars, the pieces beside them, and papers, which show that pairs are greatest."""

from onceroad.errors import NoBar
from onceroad.greatest import greatest
from onceroad.pairs import are_pairs, partners_in, singles
from onceroad.rows import are_unlike_places
from onceroad.sorts import held


def pieces_beside(web, bar):
    if not are_unlike_places(web, bar):
        raise NoBar(bar)
    return web.without(bar).pieces()


def odd_pieces(web, bar):
    return [piece for piece in pieces_beside(web, bar) if len(piece) % 2 == 1]


def lack_of(web, bar):
    return len(odd_pieces(web, bar)) - len(bar)


def paper_of(web):
    return (greatest(web), held(web))


def shows(web, thing):
    if not isinstance(thing, tuple) or len(thing) != 2:
        return False
    if not are_pairs(web, thing[0]) or not are_unlike_places(web, thing[1]):
        return False
    return len(singles(web, thing[0])) == lack_of(web, thing[1])


def is_bar(web, thing):
    return shows(web, (greatest(web), thing))


def parts_of(web, pairs, bar):
    partners = partners_in(web, pairs)
    if not shows(web, (pairs, bar)):
        raise NoBar(bar)
    return [part_with(partners, piece, bar) for piece in pieces_beside(web, bar)]


# In a paper at most one place of a piece has no partner within it.
def part_with(partners, piece, bar):
    for place in piece:
        partner = partners.get(place)
        if partner is None:
            return (piece, "single", [place])
        if partner in bar:
            return (piece, "bar", [place, partner])
    return (piece, "even", [])
