"""Players for roads on webs of two sides, roads that are led, and all answers on roads."""

from onceroad.errors import NoPlayer
from onceroad.evens import good_ties, told_set
from onceroad.matches import answers_within, lead
from onceroad.names import is_name
from onceroad.players import Numbered, Player, first_of
from onceroad.roads import Road

MOST_TIES_LEFT = 10


class Evener(Player):
    def __init__(self, names):
        if not are_names(names):
            raise NoPlayer(names)
        self.names = list(names)

    def choose(self, road):
        moves = road.moves()
        return first_of([name for name in moves if name in self.names] + moves)


class Keen(Player):
    def choose(self, road):
        return first_of(good_ties(road.web_left(), road.stands_at()) + road.moves())


def are_names(thing):
    return isinstance(thing, (list, tuple)) and all([is_name(one) for one in thing])


def road_led(web, start, numbers):
    told = told_set(web, start)
    road = Road(web, start)
    lead(road, 1 if told[0] == "lost" else 0, Evener(told[1]), Numbered(numbers))
    return road


def road_answers(road, player, hand):
    return answers_within(road, player, hand, len(road.ties_left()), MOST_TIES_LEFT)
