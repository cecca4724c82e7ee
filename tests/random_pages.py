"""Pages by a seeded random source, with pages in them, for the tests of many inputs."""

from gridlanes.contents import Block, Words
from gridlanes.pages import Grid, Item, Page

HALF = (1, 2)
LENGTHS = (0, 5, 12, 20, (15, 2), 40)
LANES_WAYS = ("stretch", "stretch", "start", "end", "center", "between", "around", "evenly")
WAYS = ("stretch", "start", "end", "center")


def random_size(rng, is_filled=False):
    part = ("part", rng.choice((HALF, (1, 4), (1, 10))))
    length = rng.choice((rng.choice(LENGTHS[1:]), rng.choice(LENGTHS), part))
    word = rng.choice(("auto", "auto", "least", "most"))
    share = ("share", rng.choice((0, 1, 1, 2, HALF)))
    sizes = [length, ("between", length, rng.choice((word, share, length))), ("between", word, length)]
    if not is_filled:
        sizes += [word, word, share, ("upto", length), ("between", word, rng.choice((word, share)))]
    return rng.choice(sizes)


def random_template(rng, may_inherit):
    if may_inherit and rng.random() < 0.5:
        return ("inherited", rng.choice(((), (("a",), ("b",)))))
    kind = rng.random()
    if kind < 0.2:
        word = rng.choice(("fill", "fit", "fit"))
        size = rng.choice((12, 20, ("between", 20, ("share", 1)), ("between", "auto", 20), ("part", (1, 4))))
        entries = [(word, (size, ("names", ("a",)))) if rng.random() < 0.5 else (word, (size,))]
        entries += [random_size(rng, True) for _ in range(rng.choice((0, 0, 1)))]
        rng.shuffle(entries)
        return tuple(entries)
    entries = [random_size(rng) for _ in range(rng.choice((0, 1, 2, 2, 3)))]
    if rng.random() < 0.3:
        entries.insert(rng.randint(0, len(entries)), ("names", ("a", "b-start")))
    return tuple(entries)


def random_edges(rng):
    return rng.choice((
        (None, None), (None, None), (None, None), (("span", 2), None), (1, None), (2, None), (1, 3), (-1, None),
        ("a", None), ("b", "b"), (2, ("span", 2)), (1, -1), (None, 1), ("f", "f"),
    ))


def random_content(rng, depth, grid):
    if depth > 0 and rng.random() < 0.5:
        return random_page(rng, depth - 1, grid)
    if rng.random() < 0.3:
        return Block(rng.choice(LENGTHS), rng.choice(LENGTHS))
    widths = [rng.choice(LENGTHS) for _ in range(rng.choice((0, 1, 2, 3)))]
    return Words(widths, rng.choice((0, 3)), rng.choice((10, (25, 2))), rng.choice((0, 8)))


def random_item(rng, depth, grid):
    def told(chance):
        return rng.choice(LENGTHS) if rng.random() < chance else None
    margins = (0, 0, 0, 0)
    if rng.random() < 0.4:
        margins = tuple(rng.choice((0, 0, 4, (3, 2), -3)) for _ in range(4))
    return Item(random_content(rng, depth, grid), order=rng.choice((0, 0, 0, 1, -1)), column=random_edges(rng),
                row=random_edges(rng), margins=margins, width=told(0.1), height=told(0.15), least_width=told(0.1),
                greatest_width=told(0.1), least_height=told(0.1), greatest_height=told(0.1),
                justify=rng.choice((None, None, *WAYS)), align=rng.choice((None, None, *WAYS, "baseline")))


def random_page(rng, depth=2, outer=None):
    """A page; outer is the grid of the page around it, None if there is none."""
    def may_inherit(template):
        return outer is not None and template[:1] != ("inherited",)
    gaps = (0, 0, 3, HALF, ("part", (1, 10)))
    grid = Grid(
        random_template(rng, may_inherit(outer.columns if outer else ())),
        random_template(rng, may_inherit(outer.rows if outer else ())),
        fields=rng.choice(((), (), (("f", "."),), ((".", "f"), (".", "f")))),
        more_columns=tuple(random_size(rng) for _ in range(rng.choice((1, 1, 2)))),
        more_rows=tuple(random_size(rng) for _ in range(rng.choice((1, 1, 2)))),
        flow=rng.choice(("row", "row", "column")), dense=rng.random() < 0.3,
        column_gap=rng.choice(gaps), row_gap=rng.choice(gaps), justify=rng.choice(LANES_WAYS),
        align=rng.choice(LANES_WAYS), items_justify=rng.choice(WAYS),
        items_align=rng.choice((*WAYS, "baseline", "baseline")),
    )
    return Page(grid, [random_item(rng, depth, grid) for _ in range(rng.choice((0, 1, 2, 3, 3)))])
