"""The three sorts of places: loose, held and fast."""

from onceroad.errors import NoPairs
from onceroad.forests import Forest
from onceroad.greatest import count_of, greatest


def sort_of(web, place):
    # Asked for its refusal of what is no place.
    web.number_of(place)
    return sorts(web)[place]


def sorts(web):
    free = loose(web)
    words = {}
    for place in web.places():
        words[place] = word_for(web, place, free)
    return words


def word_for(web, place, free):
    if place in free:
        return "loose"
    return "held" if any([other in free for other in web.beside(place)]) else "fast"


def loose(web):
    return Forest(web, greatest(web)).reached()


def held(web):
    return places_with(web, "held")


def fast(web):
    return places_with(web, "fast")


def places_with(web, word):
    words = sorts(web)
    return [place for place in web.places() if words[place] == word]


def leaving_out(web, place):
    return leaving_all(web, [place])


def leaving_both(web, one, other):
    return leaving_all(web, [one, other])


# Pairs that leave places single are just the pairs of the web without these.
def leaving_all(web, places):
    pairs = greatest(web.without(places))
    return pairs if len(pairs) == count_of(web) else None


def row_out(web, pairs, place):
    forest = Forest(web, pairs)
    if forest.row() is not None:
        raise NoPairs(pairs)
    return forest.row_to(place)


def piece_pairs(web, place):
    pairs = leaving_out(web, place)
    if pairs is None:
        return None
    pieces = web.without(held(web)).pieces()
    own = [piece for piece in pieces if place in piece][0]
    # Such pairs leave nothing else of the piece single and bind none of it to a held place.
    return [pair for pair in pairs if pair[0] in own]
