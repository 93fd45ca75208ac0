"""Pairs: ties of a web of which no two have a place in common."""

from onceroad.errors import NoPairs


def are_pairs(web, thing):
    if not isinstance(thing, list):
        return False
    paired = {}
    for tie in thing:
        if not web.has_tie(tie) or tie[0] in paired or tie[1] in paired:
            return False
        paired[tie[0]] = True
        paired[tie[1]] = True
    return True


# What is asked of pairs goes through here, so that all of it refuses alike.
def partners_in(web, pairs):
    if not are_pairs(web, pairs):
        raise NoPairs(pairs)
    partners = {}
    for pair in pairs:
        partners[pair[0]] = pair[1]
        partners[pair[1]] = pair[0]
    return partners


def told_pairs(web, pairs):
    partners = partners_in(web, pairs)
    return [tie for tie in web.ties() if partners.get(tie[0]) == tie[1]]


def partner_of(web, pairs, place):
    partners = partners_in(web, pairs)
    # Asked for its refusal of what is no place.
    web.number_of(place)
    return partners.get(place)


def singles(web, pairs):
    partners = partners_in(web, pairs)
    return [place for place in web.places() if place not in partners]


def are_alike(web, one, other):
    # Two dicts are alike whatever the order in which their keys came.
    return partners_in(web, one) == partners_in(web, other)
