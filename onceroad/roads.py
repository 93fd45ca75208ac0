"""Roads: a token goes along ties, along none of them twice; who can't move has lost."""

from onceroad.errors import NoNumbers
from onceroad.names import is_within
from onceroad.walks import Walk, count_from
from onceroad.webs import Web

MOST_MOVES_ON = 4


class Road(Walk):
    def ties_gone(self):
        return [self.tie_between(one, other) for one, other in zip(self.path, self.path[1:])]

    def ties_left(self):
        gone = self.ties_gone()
        return [tie for tie in self.board.ties() if tie not in gone]

    def moves(self):
        place = self.stands_at()
        gone = self.ties_gone()
        return [name for name in self.board.beside(place) if self.tie_between(place, name) not in gone]

    def tie_between(self, one, other):
        rising = self.board.number_of(one) < self.board.number_of(other)
        return (one, other) if rising else (other, one)

    def go(self, place):
        self.move_to(place)

    def web_left(self):
        return Web(self.board.places(), self.ties_left())

    def twin(self):
        twin = Road(self.board, self.path[0])
        twin.path = list(self.path)
        return twin


def roads_within(road, many):
    if not is_within(many, 0, MOST_MOVES_ON):
        raise NoNumbers(many)
    return count_from(road.twin(), many)
