"""Webs: places in an order, and ties between them. A web never changes."""

from onceroad.errors import NoName, NoPlace, NoTie, TooMany, Twice
from onceroad.names import is_name

MOST_PLACES = 14
MOST_TIES = 30


class Web:
    def __init__(self, names, ties):
        self.numbers = numbers_of(names)
        self.order = list(self.numbers)
        self.near = near_of(self.numbers, ties)

    def places(self):
        return list(self.order)

    def ties(self):
        ties = []
        for one in self.order:
            for other in self.beside(one):
                if self.numbers[one] < self.numbers[other]:
                    ties.append((one, other))
        return ties

    def how_many(self):
        return len(self.order)

    def has_place(self, thing):
        return is_place(self.numbers, thing)

    def has_tie(self, thing):
        return are_two_places(self.numbers, thing) and self.tied(thing[0], thing[1])

    def number_of(self, place):
        if not self.has_place(place):
            raise NoPlace(place)
        return self.numbers[place]

    def beside(self, place):
        return self.names_in(self.bits_beside(place))

    def bits_beside(self, place):
        return self.near[self.number_of(place)]

    def tied(self, one, other):
        bits = self.bits_beside(one)
        return has_bit(bits, self.number_of(other))

    def pieces(self):
        pieces = []
        seen = 0
        for number in range(len(self.order)):
            if not has_bit(seen, number):
                piece = piece_around(self.near, number)
                seen = seen | piece
                pieces.append(self.names_in(piece))
        return pieces

    def told(self):
        return (tuple(self.order), tuple(self.ties()))

    def names_in(self, bits):
        return [name for name in self.order if has_bit(bits, self.numbers[name])]

    def without(self, places):
        if not isinstance(places, (list, tuple)):
            raise NoPlace(places)
        out = {}
        for place in places:
            out[self.number_of(place)] = True
        names = [name for name in self.order if self.numbers[name] not in out]
        kept = [tie for tie in self.ties() if tie[0] in names and tie[1] in names]
        return Web(names, kept)

    def with_place(self, place):
        if not is_name(place):
            raise NoName(place)
        if self.has_place(place):
            raise Twice(place)
        # One place too many is refused where the new web is made; so is one tie below.
        return Web(self.order + [place], self.ties())

    def with_tie(self, one, other):
        if self.tied(one, other) or one == other:
            raise NoTie((one, other))
        return Web(self.order, self.ties() + [(one, other)])

    def without_tie(self, one, other):
        if not self.tied(one, other):
            raise NoTie((one, other))
        kept = [tie for tie in self.ties() if tie not in ((one, other), (other, one))]
        return Web(self.order, kept)


def has_bit(bits, number):
    return (bits >> number) & 1 == 1


def is_place(numbers, thing):
    # Names alone are looked up: a list, for one, can be no key of a dict.
    return is_name(thing) and thing in numbers


def are_two_places(numbers, thing):
    if not isinstance(thing, tuple) or len(thing) != 2:
        return False
    both = is_place(numbers, thing[0]) and is_place(numbers, thing[1])
    return both and thing[0] != thing[1]


def numbers_of(names):
    if not isinstance(names, (list, tuple)):
        raise NoName(names)
    if len(names) > MOST_PLACES:
        raise TooMany(len(names))
    numbers = {}
    for name in names:
        if not is_name(name):
            raise NoName(name)
        if name in numbers:
            raise Twice(name)
        numbers[name] = len(numbers)
    return numbers


def near_of(numbers, ties):
    if not isinstance(ties, (list, tuple)):
        raise NoTie(ties)
    if len(ties) > MOST_TIES:
        raise TooMany(len(ties))
    near = [0] * len(numbers)
    for tie in ties:
        if not are_two_places(numbers, tie):
            raise NoTie(tie)
        one = numbers[tie[0]]
        other = numbers[tie[1]]
        if has_bit(near[one], other):
            raise NoTie(tie)
        near[one] = near[one] | (1 << other)
        near[other] = near[other] | (1 << one)
    return near


def piece_around(near, number):
    piece = 1 << number
    before = 0
    while before != piece:
        before = piece
        for at, bits in enumerate(near):
            if has_bit(before, at):
                piece = piece | bits
    return piece
