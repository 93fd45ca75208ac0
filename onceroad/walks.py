"""Walks: a token that two hands move by turns along ties; what plays and roads have in common."""

from onceroad.errors import NoBack, NoMove, NoPlace


class Walk:
    def __init__(self, web, start):
        if not web.has_place(start):
            raise NoPlace(start)
        # Webs never change, so the web itself is as good as a copy.
        self.board = web
        self.path = [start]

    def web(self):
        return self.board

    def stands_at(self):
        return self.path[-1]

    def gone(self):
        return list(self.path)

    # Plays and roads narrow this, each by its own rule.
    def moves(self):
        return self.board.beside(self.stands_at())

    def hand(self):
        return (len(self.path) - 1) % 2

    def ended(self):
        return self.moves() == []

    def loser(self):
        return self.hand() if self.ended() else None

    def move_to(self, thing):
        if thing not in self.moves():
            raise NoMove(thing)
        self.path.append(thing)

    def back(self):
        if len(self.path) == 1:
            raise NoBack()
        return self.path.pop()


# Goes and comes back on the walk that is handed in, so this is to be a twin.
def count_from(walk, many):
    total = 1
    if many > 0:
        for move in walk.moves():
            walk.move_to(move)
            total += count_from(walk, many - 1)
            walk.back()
    return total
