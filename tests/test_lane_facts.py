"""Promise [44], the facts; and promises [36] to [43] on many inputs, compared with the steps written out."""

import random
import unittest

from gridlanes.lanes import lane_states, sized_lanes
from tests.literal_lanes import fraction, literal_states
from tests.random_lanes import SHARES, random_crossings, random_size

ROOMS = ("least", "most", 0, 20, 100, 200, (301, 2), 1000)


def given(rng, **kinds):
    many = rng.choice((0, 1, 2, 3, 4, 5))
    sizes = tuple(random_size(rng, **kinds) for _ in range(many))
    return sizes, rng.choice((0, 5, (1, 2))), random_crossings(rng, many)


def summed(bases, gap):
    return sum(fraction(base) for base in bases) + max(len(bases) - 1, 0) * fraction(gap)


def high_of(size):
    if isinstance(size, tuple) and size[0] == "between":
        return size[2]
    return size


def shares_of(sizes):
    return [fraction(high_of(size)[1]) for size in sizes if isinstance(high_of(size), tuple)
            and high_of(size)[0] == "share"]


class LiteralTest(unittest.TestCase):

    def test_many_lanes(self):
        rng = random.Random(35)
        for _ in range(4000):
            sizes, gap, crossings = given(rng)
            for room in rng.sample(ROOMS, 2):
                stretched = rng.random() < 0.5
                found = lane_states(sizes, gap, crossings, room, stretched=stretched)
                self.assertEqual(repr(found), repr(literal_states(sizes, gap, crossings, room, stretched)))

    def test_sixty_lanes_and_crossings(self):
        rng = random.Random(60)
        sizes = tuple(random_size(rng) for _ in range(60))
        crossings = []
        for _ in range(60):
            first = rng.randrange(60)
            asked = sorted(rng.randrange(900) for _ in range(2))
            behind = min(60, first + rng.choice((1, 2, 3, 10, 60)))
            crossings.append((first, behind, (asked[0], asked[1], asked[0], asked[0], asked[1])))
        for room in ("least", "most", 100, 4000):
            found = lane_states(sizes, 3, crossings, room, stretched=True)
            self.assertEqual(repr(found), repr(literal_states(sizes, 3, crossings, room, True)))


class FactsTest(unittest.TestCase):

    def test_bases_never_shrink(self):
        rng = random.Random(441)
        for _ in range(1000):
            sizes, gap, crossings = given(rng)
            states = lane_states(sizes, gap, crossings, rng.choice(ROOMS), stretched=rng.random() < 0.5)
            for one, other in zip(states, states[1:]):
                for base, later in zip(one[1], other[1]):
                    self.assertLessEqual(fraction(base), fraction(later))

    def test_limits(self):
        rng = random.Random(442)
        for _ in range(1000):
            sizes, gap, crossings = given(rng)
            states = lane_states(sizes, gap, crossings, rng.choice(ROOMS), stretched=rng.random() < 0.5)
            for one, other in zip(states, states[1:]):
                for limit, later in zip(one[2], other[2]):
                    if limit is not None:
                        self.assertLessEqual(fraction(limit), fraction(later))
            for step, bases, limits in states:
                if step[0] in ("begin", "single", "ends", "grown") or step[-1] == "most":
                    for base, limit in zip(bases, limits):
                        self.assertTrue(limit is None or fraction(base) <= fraction(limit))
                self.assertTrue(step[0] not in ("ends", "grown", "shared", "stretched") or None not in limits)

    def test_a_room_that_is_enough_is_enough_to_the_end(self):
        rng = random.Random(443)
        filled = 0
        for _ in range(2000):
            sizes, gap, crossings = given(rng)
            room = rng.choice((20, 100, 200, (301, 2), 1000))
            stretched = rng.random() < 0.5
            states = lane_states(sizes, gap, crossings, room, stretched=stretched)
            at = [state[0] for state in states].index(("ends",))
            if summed(states[at][1], gap) <= fraction(room):
                for state in states[at:]:
                    self.assertLessEqual(summed(state[1], gap), fraction(room))
                shares = shares_of(sizes)
                is_shared = shares and all(share == 0 or share >= 1 for share in shares) and any(shares)
                is_stretched = stretched and "auto" in [high_of(size) for size in sizes]
                if is_shared or is_stretched:
                    filled += 1
                    self.assertEqual(summed(states[-1][1], gap), fraction(room))
        self.assertGreater(filled, 300)

    def test_no_lane_is_smaller_in_a_wider_room(self):
        rng = random.Random(444)
        for _ in range(500):
            sizes, gap, crossings = given(rng, shares=SHARES, parts=())
            stretched = rng.random() < 0.5
            sized = [sized_lanes(sizes, gap, crossings, room, stretched=stretched) for room in range(0, 240, 13)]
            for one, other in zip(sized, sized[1:]):
                for size, wider in zip(one, other):
                    self.assertLessEqual(fraction(size), fraction(wider))

    def test_a_small_share_may_make_a_stretched_lane_smaller(self):
        sizes = ("auto", ("share", (1, 2)), ("share", (1, 2)))
        sized = [sized_lanes(sizes, 0, [(1, 2, (10,) * 5)], room, stretched=True) for room in (15, 20)]
        self.assertEqual(sized, [[(5, 2), 10, (5, 2)], [0, 10, 10]])

    def test_any_order_of_crossings_told_any_number_of_times(self):
        rng = random.Random(445)
        for _ in range(500):
            sizes, gap, crossings = given(rng)
            room = rng.choice(ROOMS)
            due = lane_states(sizes, gap, crossings, room)
            others = crossings + [rng.choice(crossings) for _ in crossings]
            rng.shuffle(others)
            self.assertEqual(lane_states(sizes, gap, others, room), due)
            self.assertEqual(lane_states(sizes, gap, crossings[::-1], room), due)


if __name__ == "__main__":
    unittest.main()
