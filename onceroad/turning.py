"""What turns the winner from a start: places and ties taken out, ties put in."""

from onceroad.sorts import leaving_both
from onceroad.webs import MOST_TIES
from onceroad.wins import winner


def turning_places(web, start):
    hand = winner(web, start)
    others = [place for place in web.places() if place != start]
    return [place for place in others if winner(web.without([place]), start) != hand]


def turning_ties(web, start):
    hand = winner(web, start)
    return [tie for tie in web.ties() if winner(web.without_tie(tie[0], tie[1]), start) != hand]


def turning_new_ties(web, start):
    hand = winner(web, start)
    # Where no tie more can be put in, none turns.
    if len(web.ties()) == MOST_TIES:
        return []
    return [two for two in untied(web) if winner(web.with_tie(two[0], two[1]), start) != hand]


def ties_for_a_pair(web):
    return [two for two in untied(web) if leaving_both(web, two[0], two[1]) is not None]


# All two places between which a tie could be put in, told as ties are.
def untied(web):
    found = []
    places = web.places()
    for at, one in enumerate(places):
        found.extend([(one, other) for other in places[at + 1:] if not web.tied(one, other)])
    return found
