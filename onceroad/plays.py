"""Plays: a token goes along ties, never to a place where it was; who can't move has lost."""

from onceroad.errors import NoNumbers, NoPlace
from onceroad.names import is_within
from onceroad.walks import Walk, count_from

MOST_FOR_ROWS = 3
MOST_FOR_THEIR_NUMBER = 5


class Play(Walk):
    def left(self):
        return self.not_gone(self.board.places())

    def moves(self):
        return self.not_gone(self.board.beside(self.stands_at()))

    def not_gone(self, names):
        return [name for name in names if name not in self.path]

    def go(self, name):
        self.move_to(name)

    def web_left(self):
        return self.board.without(self.path[:-1])

    def position(self):
        return (self.stands_at(), self.web_left().told())

    def twin(self):
        return played(self.board, self.path)


def played(web, names):
    if not isinstance(names, (list, tuple)) or len(names) == 0:
        raise NoPlace(names)
    play = Play(web, names[0])
    for name in names[1:]:
        play.go(name)
    return play


def rows_within(play, many):
    if not is_within(many, 0, MOST_FOR_ROWS):
        raise NoNumbers(many)
    return rows_from(play.twin(), many)


def rows_from(play, many):
    rows = [[]]
    if many > 0:
        for move in play.moves():
            play.go(move)
            rows.extend([[move] + row for row in rows_from(play, many - 1)])
            play.back()
    return rows


def all_within(play, many):
    if not is_within(many, 0, MOST_FOR_THEIR_NUMBER):
        raise NoNumbers(many)
    return count_from(play.twin(), many)
