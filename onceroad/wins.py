"""Who wins: from which starts, by which moves, and the papers that show it."""

from onceroad.bars import odd_pieces, shows
from onceroad.errors import NoNumbers
from onceroad.greatest import greatest
from onceroad.names import is_within
from onceroad.pairs import singles
from onceroad.sorts import held, leaving_out, loose


def winner(web, start):
    # Asked for its refusal of what is no place.
    web.number_of(start)
    return winners(web)[start]


def winners(web):
    free = loose(web)
    hands = {}
    for place in web.places():
        hands[place] = 1 if place in free else 0
    return hands


def start_paper(web, start):
    pairs = leaving_out(web, start)
    if pairs is None:
        return (0, greatest(web), held(web))
    return (1, pairs, held(web))


def holds(web, start, thing):
    web.number_of(start)
    if not isinstance(thing, tuple) or len(thing) != 3:
        return False
    if not is_hand(thing[0]) or not shows(web, thing[1:]):
        return False
    if thing[0] == 1:
        return start in singles(web, thing[1])
    return not any([start in piece for piece in odd_pieces(web, thing[2])])


def is_hand(thing):
    return is_within(thing, 0, 1)


def good_moves(web, start):
    free = loose(web.without([start]))
    return [place for place in web.beside(start) if place in free]


def good_starts(web):
    return loose(web)


def chosen_by(web, hand):
    if not is_hand(hand):
        raise NoNumbers(hand)
    starts = good_starts(web)
    if starts == []:
        return (1 - hand, None, greatest(web))
    return (hand, starts[0], leaving_out(web, starts[0]))


def of_play(play):
    names = good_moves(play.web_left(), play.stands_at())
    return (1 - play.hand() if names == [] else play.hand(), names)
