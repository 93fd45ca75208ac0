"""Rows that go by turns along pairs and other ties, and what lies between two pairs."""

from onceroad.errors import NoRow
from onceroad.pairs import partners_in


def is_row(web, pairs, thing):
    partners = partners_in(web, pairs)
    if not are_unlike_places(web, thing) or len(thing) < 2:
        return False
    return goes_by_turns(web, partners, thing)


def are_unlike_places(web, thing):
    if not isinstance(thing, list):
        return False
    seen = {}
    for place in thing:
        if not web.has_place(place) or place in seen:
            return False
        seen[place] = True
    return True


def goes_by_turns(web, partners, names):
    steps = list(zip(names, names[1:]))
    if not all([web.has_tie(step) for step in steps]):
        return False
    paired = [partners.get(step[0]) == step[1] for step in steps]
    return all([one != other for one, other in zip(paired, paired[1:])])


def can_turn(web, pairs, thing):
    if not is_row(web, pairs, thing):
        return False
    partners = partners_in(web, pairs)
    first = partners.get(thing[0])
    last = partners.get(thing[-1])
    return first in (None, thing[1]) and last in (None, thing[-2])


def turned(web, pairs, row):
    if not can_turn(web, pairs, row):
        raise NoRow(row)
    partners = partners_in(web, pairs)
    steps = list(zip(row, row[1:])) + list(zip(row[1:], row))
    return [tie for tie in web.ties() if (partners.get(tie[0]) == tie[1]) != (tie in steps)]


def between(web, one, other):
    near = near_between(web, partners_in(web, one), partners_in(web, other))
    parts = []
    seen = {}
    # Rows come first: a place with two neighbours that no row has can only lie in a ring.
    for ends, word in ((1, "row"), (2, "ring")):
        for place in web.places():
            if len(near[place]) == ends and place not in seen:
                names = walked(near, place)
                parts.append((word, names))
                for name in names:
                    seen[name] = True
    return sorted(parts, key=lambda part: web.number_of(part[1][0]))


def near_between(web, ones, others):
    near = {}
    for place in web.places():
        one = ones.get(place)
        other = others.get(place)
        near[place] = [name for name in web.beside(place) if (name == one) != (name == other)]
    return near


def walked(near, start):
    names = [start]
    ahead = near[start]
    while len(ahead) > 0:
        names.append(ahead[0])
        ahead = [name for name in near[names[-1]] if name not in names]
    return names
