"""The steps of promises [36] to [43], written out with Fractions for the tests to compare with."""

from fractions import Fraction

KINDS = {"least": 0, "most": 1, "minimum": 2, "limited least": 3, "limited most": 4}


def fraction(number):
    return Fraction(*number) if isinstance(number, tuple) else Fraction(number)


def number(value):
    if value is None:
        return None
    return value.numerator if value.denominator == 1 else (value.numerator, value.denominator)


def bound(value, whole):
    if isinstance(value, str):
        return value
    if isinstance(value, tuple) and value[0] == "part":
        return "auto" if whole is None else fraction(value[1]) * whole
    if isinstance(value, tuple) and value[0] == "share":
        return ("share", fraction(value[1]))
    return fraction(value)


class Lane:
    def __init__(self, size, whole):
        self.cap = None
        if isinstance(size, tuple) and size[0] == "between":
            self.low, self.high = bound(size[1], whole), bound(size[2], whole)
        elif isinstance(size, tuple) and size[0] == "upto":
            self.low, self.high = "auto", "most"
            cap = bound(size[1], whole)
            self.cap = None if cap == "auto" else cap
        else:
            self.low = self.high = bound(size, whole)
            if isinstance(self.high, tuple):
                self.low = "auto"
        self.share = self.high[1] if isinstance(self.high, tuple) else None
        self.base = self.low if isinstance(self.low, Fraction) else Fraction(0)
        self.limit = max(self.high, self.base) if isinstance(self.high, Fraction) else None


def pour(space, rooms):
    """Space given equally to lanes, to each only up to its room (None: no end), by a level that rises."""
    ends = sorted(room for room in rooms if room is not None)
    given = [Fraction(0) for _ in rooms]
    if not rooms or space <= 0:
        return given
    low = Fraction(0)
    for end in ends + [None]:
        open_ones = [room for room in rooms if room is None or room > low]
        if not open_ones:
            break
        if end is None or sum(min(end, room) if room is not None else end for room in rooms) >= space:
            filled = sum(room for room in rooms if room is not None and room <= low)
            level = (space - filled) / len(open_ones)
            return [level if room is None else min(level, room) for room in rooms]
        low = end
    return [room for room in rooms]


class Literal:
    def __init__(self, sizes, gap, crossings, room, stretched):
        self.room = room if isinstance(room, str) else fraction(room)
        self.whole = None if isinstance(room, str) else self.room
        self.gap = fraction(gap)
        self.lanes = [Lane(size, self.whole) for size in sizes]
        self.crossings = [(first, behind, [fraction(k) for k in asked]) for first, behind, asked in crossings]
        self.states = []
        self.tell(("begin",))
        self.single()
        self.across()
        self.shares()
        for lane in self.lanes:
            lane.limit = lane.base if lane.limit is None else lane.limit
        self.tell(("ends",))
        self.grown()
        self.shared()
        if stretched:
            self.stretched()

    def tell(self, step):
        self.states.append((step, tuple(number(lane.base) for lane in self.lanes),
                            tuple(number(lane.limit) for lane in self.lanes)))

    def limits_at_least_bases(self):
        for lane in self.lanes:
            if lane.limit is not None and lane.limit < lane.base:
                lane.limit = lane.base

    def single(self):
        kinds = {"least": "least", "most": "most"}
        kinds["auto"] = "minimum" if self.whole is not None else "limited " + self.room
        for at, lane in enumerate(self.lanes):
            asks = [asked for first, behind, asked in self.crossings if (first, behind) == (at, at + 1)]
            if lane.share is None and asks:
                if lane.low in kinds:
                    lane.base = max(asked[KINDS[kinds[lane.low]]] for asked in asks)
                if lane.high == "least":
                    lane.limit = max(asked[0] for asked in asks)
                elif lane.high in ("most", "auto"):
                    lane.limit = max(asked[1] for asked in asks)
                    if lane.cap is not None and lane.limit > lane.cap:
                        lane.limit = lane.cap
        self.limits_at_least_bases()
        self.tell(("single",))

    def base_words(self):
        least = "minimum" if self.whole is not None else "limited least"
        words = [("minimum", least, ("auto", "least", "most")), ("least", "least", ("least", "most"))]
        if self.room == "most":
            words.append(("limited", "limited most", ("auto", "most")))
        return words + [("most", "most", ("most",))]

    def space(self, first, behind, asked, sizes):
        return max(asked - sum(sizes[first:behind]) - (behind - first - 1) * self.gap, Fraction(0))

    def give_bases(self, askers, kind, lows, by_shares):
        bases = [lane.base for lane in self.lanes]
        best = [Fraction(0) for _ in bases]
        for first, behind, asked in askers:
            asks = asked[KINDS[kind]]
            space = self.space(first, behind, asks, bases)
            ats = [at for at in range(first, behind) if self.lanes[at].low in lows]
            if by_shares:
                ats = [at for at in ats if self.lanes[at].share is not None]
            if not ats:
                continue
            shares = sum(self.lanes[at].share or 0 for at in ats)
            if by_shares and shares > 0:
                for at in ats:
                    best[at] = max(best[at], space * self.lanes[at].share / shares)
                continue
            rooms = []
            for at in ats:
                lane = self.lanes[at]
                ends = [end for end in (lane.limit, lane.cap) if end is not None]
                rooms.append(max(min(ends) - lane.base, Fraction(0)) if ends else None)
            given = pour(space, rooms)
            words = ("most", "auto") if kind in ("most", "limited most") else ("least", "most", "auto")
            takers = [k for k, at in enumerate(ats) if self.lanes[at].high in words]
            rooms = [None if self.lanes[ats[k]].cap is None
                     else max(self.lanes[ats[k]].cap - bases[ats[k]] - given[k], Fraction(0)) for k in takers]
            for k, more in zip(takers, pour(space - sum(given), rooms)):
                given[k] += more
            rest = (space - sum(given)) / len(ats)
            for k, at in enumerate(ats):
                best[at] = max(best[at], given[k] + rest)
        for lane, more in zip(self.lanes, best):
            lane.base += more

    def give_limits(self, askers, kind, highs, endless, is_capped):
        sizes = [lane.base if lane.limit is None else lane.limit for lane in self.lanes]
        best = {}
        for first, behind, asked in askers:
            ats = [at for at in range(first, behind) if self.lanes[at].high in highs]
            space = self.space(first, behind, asked[KINDS[kind]], sizes)
            caps = [max(self.lanes[at].cap - sizes[at], Fraction(0))
                    if is_capped and self.lanes[at].cap is not None else None for at in ats]
            given = pour(space, [cap if at in endless else Fraction(0) for at, cap in zip(ats, caps)])
            rooms = [None if cap is None else cap - amount for cap, amount in zip(caps, given)]
            given = [amount + more for amount, more in zip(given, pour(space - sum(given), rooms))]
            for at, amount in zip(ats, given):
                best[at] = max(best.get(at, Fraction(0)), amount)
        for at, amount in best.items():
            self.lanes[at].limit = sizes[at] + amount

    def has_share(self, crossing):
        return any(lane.share is not None for lane in self.lanes[crossing[0]:crossing[1]])

    def across(self):
        for many in range(2, len(self.lanes) + 1):
            askers = [crossing for crossing in self.crossings
                      if crossing[1] - crossing[0] == many and not self.has_share(crossing)]
            if not askers:
                continue
            for word, kind, lows in self.base_words():
                self.give_bases(askers, kind, lows, False)
                if word == "most":
                    self.limits_at_least_bases()
                self.tell(("across", many, word))
            endless = [at for at, lane in enumerate(self.lanes) if lane.limit is None]
            self.give_limits(askers, "least", ("least", "most", "auto"), endless, False)
            self.tell(("across", many, "limits"))
            self.give_limits(askers, "most", ("most", "auto"), endless, True)
            self.tell(("across", many, "most limits"))

    def shares(self):
        askers = [crossing for crossing in self.crossings if self.has_share(crossing)]
        if askers:
            for word, kind, lows in self.base_words():
                self.give_bases(askers, kind, lows, True)
                self.limits_at_least_bases()
                self.tell(("shares", word))

    def left(self):
        return self.room - sum(lane.base for lane in self.lanes) - max(len(self.lanes) - 1, 0) * self.gap

    def grown(self):
        if self.whole is not None:
            given = pour(self.left(), [lane.limit - lane.base for lane in self.lanes])
            for lane, more in zip(self.lanes, given):
                lane.base += more
        elif self.room == "most":
            for lane in self.lanes:
                lane.base = lane.limit
        self.tell(("grown",))

    def find_share(self, lanes, space):
        sharing = [lane for lane in lanes if lane.share is not None]
        others = [lane for lane in lanes if lane.share is None]
        while sharing:
            one = space - sum(lane.base for lane in others) - (len(lanes) - 1) * self.gap
            one = one / max(sum(lane.share for lane in sharing), Fraction(1))
            great = [lane for lane in sharing if lane.base > lane.share * one]
            if not great:
                return one
            others += great
            sharing = [lane for lane in sharing if lane not in great]
        return Fraction(0)

    def shared(self):
        sharing = [lane for lane in self.lanes if lane.share is not None]
        one = None
        if self.whole is not None:
            if self.left() > 0:
                one = self.find_share(self.lanes, self.room)
        elif self.room == "most":
            ones = [lane.base / lane.share if lane.share > 1 else lane.base for lane in sharing]
            ones += [self.find_share(self.lanes[crossing[0]:crossing[1]], crossing[2][1])
                     for crossing in self.crossings if self.has_share(crossing)]
            one = max(ones, default=None)
        if one is not None:
            for lane in sharing:
                lane.base = max(lane.base, lane.share * one)
        self.tell(("shared",))

    def stretched(self):
        if self.whole is not None:
            wide = [lane for lane in self.lanes if lane.high == "auto"]
            left = self.left()
            if left > 0:
                for lane in wide:
                    lane.base += left / len(wide)
        self.tell(("stretched",))


def literal_states(sizes, gap, crossings, room, stretched=False):
    return Literal(sizes, gap, crossings, room, stretched).states
