"""Kept webs: they change by deeds, which can be taken back, and tell what turns."""

from onceroad.errors import NoBack, NoPlace
from onceroad.greatest import greatest
from onceroad.wins import winners


class Kept:
    def __init__(self, web):
        # The whole web and its blocked places, as they were at first and behind each deed that stands. All else that
        # is told hangs on these two alone, so it comes back with them.
        self.states = [(web, ())]

    def whole(self):
        return self.states[-1][0]

    def blocked(self):
        return list(self.states[-1][1])

    def web(self):
        return self.whole().without(self.blocked())

    def pairs(self):
        return greatest(self.web())

    def twin(self):
        twin = Kept(self.whole())
        twin.states = list(self.states)
        return twin

    def place_in(self, place):
        return self.come_to(self.whole().with_place(place), self.blocked())

    def place_out(self, place):
        return self.come_to(self.whole().without([place]), self.blocked())

    def tie_in(self, one, other):
        return self.come_to(self.whole().with_tie(one, other), self.blocked())

    def tie_out(self, one, other):
        return self.come_to(self.whole().without_tie(one, other), self.blocked())

    def block(self, place):
        # Asked for its refusal of what is no place that is played on.
        self.web().number_of(place)
        return self.come_to(self.whole(), self.blocked() + [place])

    def unblock(self, place):
        if place not in self.blocked():
            raise NoPlace(place)
        return self.come_to(self.whole(), [name for name in self.blocked() if name != place])

    def undo(self):
        if len(self.states) == 1:
            raise NoBack()
        before = self.web()
        self.states.pop()
        return news_of(before, self.web())

    def come_to(self, whole, blocked):
        before = self.web()
        # A place that was taken out is blocked no more.
        in_order = [name for name in whole.places() if name in blocked]
        self.states.append((whole, tuple(in_order)))
        return news_of(before, self.web())


def news_of(before, after):
    old = winners(before)
    new = winners(after)
    turned = [place for place in after.places() if place in old and old[place] != new[place]]
    return (greatest(before), greatest(after), turned)
