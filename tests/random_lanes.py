"""Lanes and crossings by a seeded random source, for the tests of many inputs."""

from tests.literal_lanes import fraction

LENGTHS = (0, 5, 10, 25, (15, 2), 40)
HALF = (1, 2)
SHARES = (0, 1, 1, 2)
SMALL_SHARES = (0, 1, 2, HALF, (1, 4))


def random_size(rng, shares=SMALL_SHARES, parts=(("part", HALF), ("part", (1, 4)))):
    plain = (*LENGTHS, *parts, "auto", "auto", "auto", "least", "most")
    kind = rng.randrange(6)
    if kind < 2:
        return rng.choice(plain)
    if kind == 2:
        return ("share", rng.choice(shares))
    if kind == 3:
        return ("upto", rng.choice((*LENGTHS, *parts)))
    return ("between", rng.choice(plain), rng.choice((*plain, ("share", rng.choice(shares)))))


def random_crossing(rng, many):
    first = rng.randrange(many)
    behind = min(many, first + rng.choice((1, 1, 1, 2, 2, 3, 4, 5)))
    asked = [rng.choice((0, 3, 10, 20, (35, 3), 50, 80)) for _ in range(5)]
    if rng.random() < 0.6:
        asked[:2] = sorted(asked[:2], key=fraction)
        if rng.random() < 0.6:
            asked[2:] = [rng.choice((0, asked[0])), asked[0], asked[1]]
    return (first, behind, tuple(asked))


def random_crossings(rng, many, most=5):
    return [random_crossing(rng, many) for _ in range(rng.randint(0, most))] if many else []
