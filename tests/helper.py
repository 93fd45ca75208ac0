"""What several test files need: things of every kind, webs, and refusals looked at closely."""

import unittest
from itertools import combinations

from onceroad import errors
from onceroad.desk import Desk
from onceroad.eveners import Evener, Keen
from onceroad.forests import Forest
from onceroad.kept import Kept
from onceroad.players import Best, By, Nearest, Numbered
from onceroad.plays import Play
from onceroad.roads import Road
from onceroad.webs import Web

FIELDS = {
    "NoName": "found", "Twice": "name", "NoPlace": "found", "NoTie": "found", "TooMany": "many",
    "NoText": "at", "NoPairs": "found", "NoRow": "found", "Odd": "ring", "NoMove": "found",
    "NoBack": None, "NoBar": "found", "NoPlayer": "found", "NoNumbers": "found", "NoLine": "found",
}

FOURTEEN = list("abcdefghijklmn")


def things():
    """Things of every kind that may be handed in as any thing, a new list of them each time."""
    return [
        0, 1, -1, 7, 10 ** 39, -(10 ** 39), True, False, None,
        "", " ", "A", "Ab", "a ", " a", "a\n", "a1", "a-b", "zzzzzzz", "~", ">", "a > b", "x" * 2000, "\n" * 9,
        len, lambda: None, things, Web([], []), Web(["a", "b"], [("a", "b")]),
        Play(Web(["a"], []), "a"), Forest(Web(["a"], []), []), Kept(Web(["a"], [])), Nearest(), Numbered([1]), By(len),
        Road(Web(["a", "b"], [("a", "b")]), "a"), {"a": Road(Web(["a"], []), "a")}, Evener([]), Keen(), Desk(), [Keen()],
        Best(), [Nearest()], (Kept(Web([], [])),), errors.NoBack(), errors.NoPlace("a"), errors.OnceError("a"),
        [], (), {}, [[]], [()], ([],), [{}], ["a", ["b"]], [["a", "b"]], ("a", ["b"]), ["q", "r"], ("q", "r"),
        [("a",)], [("a", "b", "c")], [("q", "r")], [("a", 1)], [(True, "b")], [(["a"], "b")], [({}, {})], [None],
        {"a": "b"}, {1: 2}, {("a", "b"): [1]}, [1, "a", (2, [3, (4, [5])])], [0] * 1999, [("q", "r")] * 600,
    ]


def other_things(kinds):
    """Those of these things that are of none of these kinds."""
    return [thing for thing in things() if not isinstance(thing, kinds)]


def copied(thing):
    """A copy of lists, tuples and dicts and of those within them; all else is taken as it is."""
    if isinstance(thing, (list, tuple)):
        return type(thing)(copied(one) for one in thing)
    if isinstance(thing, dict):
        return {key: copied(one) for key, one in thing.items()}
    return thing


def line_web(names):
    return Web(list(names), [(one, other) for one, other in zip(names, names[1:])])


def ring_web(names):
    return Web(list(names), list(zip(names, list(names[1:]) + [names[0]])))


def full_ties(names, many):
    """So many ties between these names, in order."""
    return list(combinations(names, 2))[:many]


def all_webs(names):
    """All webs with these places in this order."""
    ties = list(combinations(names, 2))
    for bits in range(1 << len(ties)):
        yield Web(list(names), [tie for at, tie in enumerate(ties) if bits >> at & 1])


def all_pairs(web):
    """All pairs of a web, by trying all its ties."""
    found = [[]]
    for tie in web.ties():
        found += [pairs + [tie] for pairs in found if not any(set(tie) & set(pair) for pair in pairs)]
    return found


def all_told(play):
    """All that a play tells, to be compared."""
    web = play.web().told()
    rest = (play.hand(), play.ended(), play.loser(), play.web_left().told(), play.position())
    return (web, play.stands_at(), play.gone(), play.left(), play.moves()) + rest


def road_told(road):
    """All that a road tells, to be compared."""
    rest = (road.hand(), road.ended(), road.loser(), road.web().told(), road.web_left().told())
    return (road.stands_at(), road.gone(), road.ties_gone(), road.ties_left(), road.moves()) + rest


def went(web, names):
    """A road that went along these names."""
    road = Road(web, names[0])
    for name in names[1:]:
        road.go(name)
    return road


def ways_to_go(ties, place):
    """By a plain list of ties left: each way to go on from a place, as (other place, ties left behind it)."""
    return [(one if other == place else other, [tie for tie in ties if tie != (one, other)])
            for one, other in ties if place in (one, other)]


def roads_by_trying(ties, place, many):
    """All rows of at most so many moves on a road, by a plain list of the ties that are left."""
    found = [[]]
    if many > 0:
        for name, left in ways_to_go(ties, place):
            found += [[name] + row for row in roads_by_trying(left, name, many - 1)]
    return found


def road_mover_wins(ties, place, known):
    """Whether the hand that is to move wins on a road, by trying all moves along a plain list of ties left."""
    key = (tuple(ties), place)
    if key not in known:
        known[key] = any(not road_mover_wins(left, name, known) for name, left in ways_to_go(ties, place))
    return known[key]


def is_two_sided(web):
    """Whether a web has two sides, by colours that spread along its ties."""
    colours = {}
    for start in web.places():
        waiting = [] if start in colours else [start]
        colours.setdefault(start, 0)
        while waiting:
            place = waiting.pop()
            for other in web.beside(place):
                if other not in colours:
                    colours[other] = 1 - colours[place]
                    waiting.append(other)
    return all(colours[one] != colours[other] for one, other in web.ties())


def two_sided_webs(many, places, ties):
    """So many webs of two sides, of so many places, in mixed order, and at most so many ties."""
    found = []
    for turn in range(many):
        names = FOURTEEN[:places]
        half = places // 2 - turn % 2
        across = [(one, other) for one in names[:half] for other in names[half:]]
        found.append(Web(mixed(names, turn), mixed(across, turn + 500)[:ties]))
    return found


def small_two_sided_webs():
    """All webs of two sides of four places, and some larger ones, also such of several pieces."""
    found = [web for web in all_webs("bdac") if is_two_sided(web)]
    found += two_sided_webs(6, 6, 7) + two_sided_webs(4, 7, 6) + two_sided_webs(3, 8, 9)
    return found + [Web(["a"], []), line_web("cab"), ring_web("abcdef"), Web(list("abcde"), [("a", "c"), ("b", "e")])]


def great_two_sided_webs():
    """Webs of two sides at the edges of how many places and ties there may be."""
    return two_sided_webs(4, 14, 30) + two_sided_webs(4, 13, 20) + [line_web(FOURTEEN), ring_web(FOURTEEN)]


def mover_wins(play, known):
    """Whether the hand that is to move wins, by trying all moves; what is known by position is kept in the dict."""
    position = play.position()
    if position not in known:
        wins = False
        for move in play.moves():
            twin = play.twin()
            twin.go(move)
            wins = not mover_wins(twin, known) or wins
        known[position] = wins
    return known[position]


def all_plays(web, start):
    """A play from this start and all that can come of it."""
    found = [Play(web, start)]
    for play in found:
        for move in play.moves():
            found.append(play.twin())
            found[-1].go(move)
    return found


def most_pairs(web):
    """How many greatest pairs are, by trying each partner of one place after another."""
    return most_among([web.bits_beside(place) for place in web.places()], (1 << web.how_many()) - 1, {})


def most_among(near, left, known):
    if not left:
        return 0
    if left not in known:
        low = left & -left
        rest = left ^ low
        partners = near[low.bit_length() - 1] & rest
        most = most_among(near, rest, known)
        while partners:
            partner = partners & -partners
            most = max(most, 1 + most_among(near, rest ^ partner, known))
            partners ^= partner
        known[left] = most
    return known[left]


def greatest_by_trying(web):
    """All greatest pairs of a web."""
    found = all_pairs(web)
    most = max(len(pairs) for pairs in found)
    return [pairs for pairs in found if len(pairs) == most]


def loose_by_counting(web):
    """The places without which there are as many pairs, in order."""
    most = most_pairs(web)
    return [place for place in web.places() if most_pairs(web.without([place])) == most]


def mixed(things, turn):
    """These things in another order, which hangs on the turn alone."""
    state, rest, found = turn, list(things), []
    while rest:
        state = (state * 1103515245 + 12345) % 2147483648
        found.append(rest.pop((state >> 8) % len(rest)))
    return found


def mixed_webs(many, places, ties):
    """So many webs of so many places and ties, the places in mixed order."""
    names = FOURTEEN[:places]
    return [Web(mixed(names, turn), mixed(combinations(names, 2), turn + 1000)[:ties]) for turn in range(many)]


def told_webs():
    """Webs at the edges, some with rings within rings, and some of fourteen places."""
    flower = Web(list("abcdefg"), list(zip("abcdcdfg", "bcdeefga")))
    spokes = [("abcde"[at], "fghij"[at]) for at in range(5)]
    star = Web(list("abcdefghij"), list(zip("abcde", "bcdea")) + spokes + list(zip("fghij", "hijfg")))
    webs = [Web([], []), Web(["a"], []), Web(list("cab"), []), line_web("ab"), line_web("abc"), ring_web("abc")]
    webs += [ring_web("bdace"), flower, star, line_web(FOURTEEN), ring_web(FOURTEEN), ring_web(FOURTEEN[:13])]
    # Three rings of three at one place each of a place in the midst, which is tied to all three.
    rings = [tie for one in ("abc", "def", "ghi") for tie in zip(one, one[1:] + one[0])]
    webs.append(Web(list("mabcdefghi"), rings + [("m", "a"), ("d", "m"), ("m", "g")]))
    webs.append(Web(FOURTEEN, full_ties(FOURTEEN, 30)))
    webs.append(Web(FOURTEEN, full_ties("abcdefgh", 28) + [("i", "j"), ("k", "l")]))
    return webs + mixed_webs(3, 14, 30) + mixed_webs(3, 14, 18) + mixed_webs(3, 13, 14)


class Case(unittest.TestCase):
    def caught(self, kind, call, args):
        with self.assertRaises(errors.OnceError) as caught:
            call(*args)
        self.assertEqual(type(caught.exception).__name__, kind.__name__, (call, args))
        return caught.exception

    def refuses(self, kind, thing, call, *args):
        """The call is refused with this class, and its field is this very thing."""
        error = self.caught(kind, call, args)
        self.assertIs(getattr(error, FIELDS[kind.__name__]), thing)

    def refuses_with(self, kind, value, call, *args):
        """The call is refused with this class, and its field is like this value, of its kind."""
        error = self.caught(kind, call, args)
        found = getattr(error, FIELDS[kind.__name__])
        self.assertEqual(found, value)
        self.assertIs(type(found), type(value))

    def is_true(self, told):
        self.assertIs(told, True)

    def is_false(self, told):
        self.assertIs(told, False)

    def keeps(self, call, *args):
        """The call, refused or not, leaves its arguments as they are; what it tells is told."""
        before = copied(args)
        try:
            told = call(*args)
        except errors.OnceError:
            told = None
        self.assertEqual(args, before)
        return told
