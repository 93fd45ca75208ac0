"""Forests: trees grown from the single places along pairs, with odd rings folded."""

from onceroad.pairs import partners_in


class Forest:
    def __init__(self, web, pairs):
        self.board = web
        self.partners = partners_in(web, pairs)
        # For each place that is reached evenly a row from a single place to it; once told, it never changes.
        self.rows = {}
        # For each place that a tree came to by a tie that is none of the pairs, the place from which it came.
        self.parents = {}
        # The places of one outermost fold have one base, the place of it that is nearest to the tree's single one.
        self.bases = {}
        self.rings = []
        self.waiting = []
        self.longer = None
        self.grow()

    def row(self):
        return None if self.longer is None else list(self.longer)

    def reached(self):
        if self.longer is not None:
            return None
        return [place for place in self.board.places() if place in self.rows]

    def row_to(self, place):
        # Asked for its refusal of what is no place.
        self.board.number_of(place)
        if self.longer is not None or place not in self.rows:
            return None
        return list(self.rows[place])

    def folds(self):
        rings = sorted(self.rings, key=lambda ring: (self.board.number_of(ring[0]), len(ring)))
        return [list(ring) for ring in rings]

    def grow(self):
        for place in self.board.places():
            self.bases[place] = place
            if place not in self.partners:
                self.reach(place, [place])
        while len(self.waiting) > 0 and self.longer is None:
            self.look_around(self.waiting.pop(0))

    def reach(self, place, row):
        self.rows[place] = row
        self.waiting.append(place)

    def look_around(self, place):
        for other in self.board.beside(place):
            if other in self.rows:
                self.bring_together(place, other)
            elif other not in self.parents:
                # Single places are reached from the first, so this one has a partner.
                partner = self.partners[other]
                self.parents[other] = place
                self.reach(partner, self.rows[place] + [other, partner])
            if self.longer is not None:
                return

    def bring_together(self, one, other):
        ones = self.bases_down_from(one)
        others = self.bases_down_from(other)
        if ones[-1] != others[-1]:
            self.longer = self.rows[one] + self.rows[other][::-1]
        elif ones[0] != others[0]:
            meeting = [base for base in ones if base in others][0]
            ring = self.reach_round(one, other, ones[:ones.index(meeting)])
            ring.extend(self.reach_round(other, one, others[:others.index(meeting)]))
            self.fold(ring, meeting)

    def bases_down_from(self, place):
        bases = [self.bases[place]]
        while bases[-1] in self.partners:
            below = self.parents[self.partners[bases[-1]]]
            bases.append(self.bases[below])
        return bases

    # What lies on one side of a ring and was not reached evenly yet is so the other way round the ring.
    def reach_round(self, one, other, bases):
        side = []
        for base in bases:
            place = self.partners[base]
            row = self.rows[one]
            self.reach(place, self.rows[other] + row[row.index(place):][::-1])
            side.extend([base, place])
        return side

    # The ring may run through folds: what lies in these comes along.
    def fold(self, ring, meeting):
        within = [place for place in self.board.places() if self.bases[place] in ring + [meeting]]
        for place in within:
            self.bases[place] = meeting
        self.rings.append(within)
