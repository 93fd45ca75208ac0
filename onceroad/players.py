"""Players: asked with a play, or with a road, each tells a move by its own rule."""

from onceroad.errors import NoNumbers
from onceroad.names import is_whole
from onceroad.pairs import partners_in
from onceroad.wins import of_play

MOST_NUMBERS = 60


class Player:
    # Only here so that all kinds of players stand under one class; each has its own way to choose.
    def choose(self, play):
        return None


class Partner(Player):
    def __init__(self, web, pairs):
        self.partners = partners_in(web, pairs)

    def choose(self, play):
        return self.partners.get(play.stands_at())


class Nearest(Player):
    def choose(self, play):
        return first_of(play.moves())


class Farthest(Player):
    def choose(self, play):
        return first_of(play.moves()[::-1])


class Numbered(Player):
    def __init__(self, numbers):
        if not are_numbers(numbers):
            raise NoNumbers(numbers)
        self.numbers = list(numbers)

    def choose(self, play):
        moves = play.moves()
        if moves == []:
            return None
        made = len(play.gone()) - 1
        number = self.numbers[made % len(self.numbers)]
        return moves[number % len(moves)]


class By(Player):
    def __init__(self, function):
        self.function = function

    def choose(self, play):
        function = self.function
        return function(play.moves())


class Best(Player):
    def choose(self, play):
        return first_of(of_play(play)[1] + play.moves())


def first_of(names):
    return names[0] if len(names) > 0 else None


def are_numbers(thing):
    if not isinstance(thing, list) or not 1 <= len(thing) <= MOST_NUMBERS:
        return False
    return all([is_whole(number) for number in thing])
