"""Even sets and odd sets: who wins on the roads of webs of two sides, shown by counting ties."""

from onceroad.rows import are_unlike_places
from onceroad.sides import sides_of
from onceroad.sums import free_of, picks, sum_of


# What is asked of a web and a start goes through here, so that all of it refuses alike.
def near_side(web, start):
    # Asked for its refusal of what is no place, which goes ahead of that of an odd ring.
    web.number_of(start)
    sides = sides_of(web)
    own = sides[0] if start in sides[0] else sides[1]
    return [place for place in piece_with(web, start) if place in own]


def far_side(web, start):
    near = near_side(web, start)
    return [place for place in piece_with(web, start) if place not in near]


def piece_with(web, place):
    return [piece for piece in web.pieces() if place in piece][0]


def told_set(web, start):
    even = even_set(web, start)
    if even is not None:
        return ("lost", even)
    far = far_side(web, start)
    # The goal is the start alone: it is to be tied to an odd number, each other place of its side to an even one.
    # Where there is no even set with the start, there are such places.
    return ("won", names_at(far, picks(bits_beside_each(web, far), bit_of(web, start))))


# An even set that has the start: others of its side that are together tied as the start is tied.
def even_set(web, start):
    near = near_side(web, start)
    others = [place for place in near if place != start]
    picked = picks(bits_beside_each(web, others), web.bits_beside(start))
    if picked is None:
        return None
    chosen = names_at(others, picked)
    return [place for place in near if place == start or place in chosen]


def bits_beside_each(web, places):
    return [web.bits_beside(place) for place in places]


def names_at(names, numbers):
    return [names[number] for number in numbers]


def bit_of(web, place):
    return 1 << web.number_of(place)


def is_even(web, start, thing):
    near = near_side(web, start)
    return sum_beside(web, near, thing) == 0 and start in thing


def is_odd(web, start, thing):
    far = far_side(web, start)
    return sum_beside(web, far, thing) == bit_of(web, start)


# The places that are tied to an odd number of these names, as bits; None where the thing is no list of unlike names
# of the side.
def sum_beside(web, side, thing):
    if not are_unlike_places(web, thing) or not all([place in side for place in thing]):
        return None
    return sum_of(bits_beside_each(web, thing))


def free_evens(web, start):
    near = near_side(web, start)
    numbers = bits_beside_each(web, near)
    free = free_of(numbers)
    # Each place that is not free makes up an even set with places ahead of it; so no such set is a sum of others.
    bound = [at for at in range(len(near)) if at not in free]
    return [names_at(near, picks(numbers[:at], numbers[at]) + [at]) for at in bound]


def good_ties(web, start):
    # Asked for its refusals: a web with an odd ring may have none without one of its ties.
    near_side(web, start)
    return [place for place in web.beside(start) if even_set(web.without_tie(start, place), place) is not None]
