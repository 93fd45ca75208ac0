"""Plays: a token goes along ties, never to a place where it was; who can't move has lost."""

from onceroad.errors import NoBack, NoMove, NoNumbers, NoPlace
from onceroad.names import is_within

MOST_FOR_ROWS = 3
MOST_FOR_THEIR_NUMBER = 5


class Play:
    def __init__(self, web, start):
        if not web.has_place(start):
            raise NoPlace(start)
        # Webs never change, so the web itself is as good as a copy.
        self.board = web
        self.path = [start]

    def web(self):
        return self.board

    def stands_at(self):
        return self.path[-1]

    def gone(self):
        return list(self.path)

    def left(self):
        return self.not_gone(self.board.places())

    def moves(self):
        return self.not_gone(self.board.beside(self.stands_at()))

    def not_gone(self, names):
        return [name for name in names if name not in self.path]

    def hand(self):
        return (len(self.path) - 1) % 2

    def ended(self):
        return self.moves() == []

    def loser(self):
        return self.hand() if self.ended() else None

    def web_left(self):
        return self.board.without(self.path[:-1])

    def position(self):
        return (self.stands_at(), self.web_left().told())

    def go(self, name):
        if name not in self.moves():
            raise NoMove(name)
        self.path.append(name)

    def back(self):
        if len(self.path) == 1:
            raise NoBack()
        return self.path.pop()

    def twin(self):
        return played(self.board, self.path)


def played(web, names):
    if not isinstance(names, (list, tuple)) or len(names) == 0:
        raise NoPlace(names)
    play = Play(web, names[0])
    for name in names[1:]:
        play.go(name)
    return play


def rows_within(play, many):
    if not is_within(many, 0, MOST_FOR_ROWS):
        raise NoNumbers(many)
    return rows_from(play.twin(), many)


def rows_from(play, many):
    rows = [[]]
    if many > 0:
        for move in play.moves():
            play.go(move)
            rows.extend([[move] + row for row in rows_from(play, many - 1)])
            play.back()
    return rows


def all_within(play, many):
    if not is_within(many, 0, MOST_FOR_THEIR_NUMBER):
        raise NoNumbers(many)
    return count_from(play.twin(), many)


def count_from(play, many):
    total = 1
    if many > 0:
        for move in play.moves():
            play.go(move)
            total += count_from(play, many - 1)
            play.back()
    return total
