"""The steps by which lanes get their sizes."""

from gridlanes.giving import given_by_shares, given_equally, given_on, room_up_to
from gridlanes.reckoning import greater, is_more, lesser, minus, over, plus, times, total, with_gaps

# Where a contribution stands in what an item asks.
LEAST = 0
MOST = 1
MINIMUM = 2
LIMITED_LEAST = 3
LIMITED_MOST = 4

ALL_WORDS = ("auto", "least", "most")
MOST_WORDS = ("auto", "most")


class Sizing:
    """Lanes while they get their sizes: their bases, their limits (None for no end), and all states so far."""

    def __init__(self, bounds, gap, crossings, room):
        self.bounds = bounds
        self.gap = gap
        self.crossings = crossings
        self.room = room
        self.bases = [0 if lane.low is None else lane.low for lane in bounds]
        self.limits = [lane.high for lane in bounds]
        self.states = []


def tell(sizing, step):
    """Add the state behind a step."""
    sizing.states.append((step, tuple(sizing.bases), tuple(sizing.limits)))


def has_length(sizing):
    """Tell whether the room for all lanes is a LENGTH."""
    return not isinstance(sizing.room, str)


def is_most(sizing):
    """Tell whether lanes get sizes as great as items ask for."""
    return isinstance(sizing.room, str) and sizing.room == "most"


def raise_limits(sizing):
    """Make each limit at least the base."""
    sizing.limits = [
        None if limit is None else greater(limit, base) for limit, base in zip(sizing.limits, sizing.bases)
    ]


def greatest(numbers):
    """Return the greatest one of a list of NUMBERS."""
    found = numbers[0]
    for number in numbers:
        found = greater(found, number)
    return found


def automatic_kind(sizing):
    """Return which contribution counts for a low "auto"."""
    if has_length(sizing):
        return MINIMUM
    return LIMITED_MOST if is_most(sizing) else LIMITED_LEAST


def single_base(sizing, lane, asks):
    """Return the base of a lane by what the items ask that cross it alone, None if it stays."""
    if lane.low_word == "least":
        return greatest([asked[LEAST] for asked in asks])
    if lane.low_word == "most":
        return greatest([asked[MOST] for asked in asks])
    if lane.low_word == "auto":
        kind = automatic_kind(sizing)
        return greatest([asked[kind] for asked in asks])
    return None


def single_limit(lane, asks):
    """Return the limit of a lane by what the items ask that cross it alone, None if it stays."""
    if lane.high_word == "least":
        return greatest([asked[LEAST] for asked in asks])
    if lane.high_word in MOST_WORDS:
        limit = greatest([asked[MOST] for asked in asks])
        return limit if lane.cap is None else lesser(limit, lane.cap)
    return None


def size_single(sizing):
    """Size lanes by the items that cross them alone."""
    asks_of = {}
    for first, behind, asked in sizing.crossings:
        if behind == first + 1 and sizing.bounds[first].high_word != "share":
            asks_of.setdefault(first, []).append(asked)
    for index, asks in asks_of.items():
        lane = sizing.bounds[index]
        base = single_base(sizing, lane, asks)
        limit = single_limit(lane, asks)
        if base is not None:
            sizing.bases[index] = base
        if limit is not None:
            sizing.limits[index] = limit
    raise_limits(sizing)


def space_of(sizing, sizes, crossing, asked):
    """Return the space that an item asks for beyond the sizes of its lanes."""
    first, behind, _ = crossing
    return greater(minus(asked, with_gaps(sizes[first:behind], sizing.gap)), 0)


def base_amounts(sizing, lanes, space, takers):
    """Return how much an item gives to the bases of lanes in question."""
    rooms = []
    for lane in lanes:
        room = room_up_to(sizing.limits[lane], sizing.bases[lane])
        cap_room = room_up_to(sizing.bounds[lane].cap, sizing.bases[lane])
        if room is None:
            room = cap_room
        elif cap_room is not None:
            room = lesser(room, cap_room)
        rooms.append(room)
    amounts = given_equally(space, rooms)
    more_rooms = []
    for lane, amount in zip(lanes, amounts):
        bounds = sizing.bounds[lane]
        is_taker = bounds.high_word in takers
        more_rooms.append(room_up_to(bounds.cap, plus(sizing.bases[lane], amount)) if is_taker else 0)
    amounts = given_on(space, amounts, more_rooms)
    return given_on(space, amounts, [None for _ in lanes])


def share_amounts(sizing, lanes, space):
    """Return how much an item gives to the bases of lanes in question that have shares."""
    return given_by_shares(space, [sizing.bounds[lane].share for lane in lanes])


def grow_bases(sizing, askers, step):
    """Let bases grow by what items ask; step is a tuple (word, contribution, lows, who takes more)."""
    _, kind, lows, takers = step
    grown = {}
    for crossing in askers:
        first, behind, asked = crossing
        lanes = [lane for lane in range(first, behind) if sizing.bounds[lane].low_word in lows]
        space = space_of(sizing, sizing.bases, crossing, asked[kind])
        if takers is None:
            lanes = [lane for lane in lanes if sizing.bounds[lane].share is not None]
            amounts = share_amounts(sizing, lanes, space)
        else:
            amounts = base_amounts(sizing, lanes, space, takers)
        for lane, amount in zip(lanes, amounts):
            grown[lane] = greater(grown.get(lane, 0), amount)
    sizing.bases = [plus(base, grown.get(lane, 0)) for lane, base in enumerate(sizing.bases)]


def grow_limits(sizing, askers, kind, highs, endless, caps):
    """Let limits grow by what items ask; those of endless lanes have a room without an end, up to their caps."""
    sizes = [base if limit is None else limit for base, limit in zip(sizing.bases, sizing.limits)]
    grown = {}
    for crossing in askers:
        first, behind, asked = crossing
        lanes = [lane for lane in range(first, behind) if sizing.bounds[lane].high_word in highs]
        space = space_of(sizing, sizes, crossing, asked[kind])
        rooms = [room_up_to(caps[lane], sizes[lane]) for lane in lanes]
        amounts = given_equally(space, [room if lane in endless else 0 for lane, room in zip(lanes, rooms)])
        left = [None if room is None else minus(room, amount) for room, amount in zip(rooms, amounts)]
        amounts = given_on(space, amounts, left)
        for lane, amount in zip(lanes, amounts):
            grown[lane] = greater(grown.get(lane, 0), amount)
    for lane, amount in grown.items():
        sizing.limits[lane] = plus(sizes[lane], amount)


def base_steps(sizing):
    """Return the list of the steps by which bases grow: tuples (word, contribution, lows, who takes more)."""
    steps = [
        ("minimum", MINIMUM if has_length(sizing) else LIMITED_LEAST, ALL_WORDS, ALL_WORDS),
        ("least", LEAST, ("least", "most"), ALL_WORDS),
    ]
    if is_most(sizing):
        steps.append(("limited", LIMITED_MOST, MOST_WORDS, MOST_WORDS))
    steps.append(("most", MOST, ("most",), MOST_WORDS))
    return steps


def crosses_share(sizing, crossing):
    """Tell whether an item crosses a lane whose high is a share."""
    first, behind, _ = crossing
    return any([lane.share is not None for lane in sizing.bounds[first:behind]])


def size_across(sizing):
    """Size lanes by the items that cross several of them and no share."""
    askers_of = {}
    for crossing in sizing.crossings:
        many = crossing[1] - crossing[0]
        if many > 1 and not crosses_share(sizing, crossing):
            askers_of.setdefault(many, []).append(crossing)
    for many in sorted(askers_of):
        askers = askers_of[many]
        for step in base_steps(sizing):
            grow_bases(sizing, askers, step)
            if step[0] == "most":
                raise_limits(sizing)
            tell(sizing, ("across", many, step[0]))
        endless = [lane for lane, limit in enumerate(sizing.limits) if limit is None]
        grow_limits(sizing, askers, LEAST, ALL_WORDS, endless, [None for _ in sizing.bounds])
        tell(sizing, ("across", many, "limits"))
        grow_limits(sizing, askers, MOST, MOST_WORDS, endless, [lane.cap for lane in sizing.bounds])
        tell(sizing, ("across", many, "most limits"))


def size_shares(sizing):
    """Size lanes that have shares by all items that cross one of them."""
    askers = [crossing for crossing in sizing.crossings if crosses_share(sizing, crossing)]
    if len(askers) > 0:
        for word, kind, lows, _ in base_steps(sizing):
            grow_bases(sizing, askers, (word, kind, lows, None))
            tell(sizing, ("shares", word))


def space_left(sizing):
    """Return the space that is left of a room that is a LENGTH."""
    return minus(sizing.room, with_gaps(sizing.bases, sizing.gap))


def grow(sizing):
    """Let all lanes grow into the space that is left, up to their limits."""
    if is_most(sizing):
        sizing.bases = list(sizing.limits)
    elif has_length(sizing):
        rooms = [room_up_to(limit, base) for limit, base in zip(sizing.limits, sizing.bases)]
        amounts = given_equally(space_left(sizing), rooms)
        sizing.bases = [plus(base, amount) for base, amount in zip(sizing.bases, amounts)]


def one_share(sizing, first, behind, space):
    """Find one share for the lanes from first to the one ahead of behind in a space."""
    sharing = [lane for lane in range(first, behind) if sizing.bounds[lane].share is not None]
    others = [sizing.bases[lane] for lane in range(first, behind) if lane not in sharing]
    left = minus(minus(space, times(behind - first - 1, sizing.gap)), total(others))
    while len(sharing) > 0:
        share = over(left, greater(total([sizing.bounds[lane].share for lane in sharing]), 1))
        great = [
            lane for lane in sharing if is_more(sizing.bases[lane], times(sizing.bounds[lane].share, share))
        ]
        if len(great) == 0:
            return share
        left = minus(left, total([sizing.bases[lane] for lane in great]))
        sharing = [lane for lane in sharing if lane not in great]
    return 0


def most_share(sizing):
    """Return one share for the room "most"; 0 if no lane has a share."""
    found = [0]
    for lane, bounds in enumerate(sizing.bounds):
        if bounds.share is not None:
            found.append(over(sizing.bases[lane], greater(bounds.share, 1)))
    for crossing in sizing.crossings:
        if crosses_share(sizing, crossing):
            first, behind, asked = crossing
            found.append(one_share(sizing, first, behind, asked[MOST]))
    return greatest(found)


def share_out(sizing):
    """Give lanes that have shares these times one share, if that is more than they have."""
    share = 0
    if is_most(sizing):
        share = most_share(sizing)
    elif has_length(sizing) and is_more(space_left(sizing), 0):
        share = one_share(sizing, 0, len(sizing.bounds), sizing.room)
    for index, lane in enumerate(sizing.bounds):
        if lane.share is not None:
            sizing.bases[index] = greater(sizing.bases[index], times(lane.share, share))


def stretch(sizing):
    """Give what is left of a room that is a LENGTH to the lanes whose high is "auto"."""
    if has_length(sizing):
        rooms = [None if lane.high_word == "auto" else 0 for lane in sizing.bounds]
        amounts = given_equally(space_left(sizing), rooms)
        sizing.bases = [plus(base, amount) for base, amount in zip(sizing.bases, amounts)]


def states_of(bounds, gap, crossings, room, stretched):
    """Return the list of the states by which lanes with these bounds get their sizes."""
    sizing = Sizing(bounds, gap, crossings, room)
    raise_limits(sizing)
    tell(sizing, ("begin",))
    size_single(sizing)
    tell(sizing, ("single",))
    size_across(sizing)
    size_shares(sizing)
    sizing.limits = [base if limit is None else limit for base, limit in zip(sizing.bases, sizing.limits)]
    tell(sizing, ("ends",))
    grow(sizing)
    tell(sizing, ("grown",))
    share_out(sizing)
    tell(sizing, ("shared",))
    if stretched:
        stretch(sizing)
        tell(sizing, ("stretched",))
    return sizing.states
