"""Promises [46] to [61], written out with Fractions and the functions of earlier stages, for the tests to compare with.

Nothing is kept and everything is found anew wherever it is asked for; so this is slow.
"""

from fractions import Fraction

from gridlanes.contents import Block, Words, height_in, least_width, most_width
from gridlanes.contributions import contributions
from gridlanes.lanes import sized_lanes
from gridlanes.lines import edges_of, lines_of
from gridlanes.pages import Grid, Item, Page
from gridlanes.repeats import fallen_lanes, gap_of, lane_count, lane_sizes, repeats_of
from gridlanes.walks import places
from tests.literal_lanes import fraction, number
from tests.literal_walk import literal_walk

AXES = ("column", "row")


def template(grid, axis):
    return grid.columns if axis == "column" else grid.rows


def inherits(content, axis):
    return isinstance(content, Page) and template(content.grid, axis)[:1] == ("inherited",)


def with_margins(item, axis, margins):
    """The item with other margins in an axis, all of them at its start."""
    given = dict(vars(item))
    if axis == "column":
        given["margins"] = (0, 0, 0, number(margins))
    else:
        given["margins"] = (number(margins), 0, 0, 0)
    return Item(given.pop("content"), **given)


def margins_in(item, axis):
    above, right, below, left = [fraction(margin) for margin in item.margins]
    return (left, right) if axis == "column" else (above, below)


def held(item, axis, size):
    names = ("least_width", "greatest_width") if axis == "column" else ("least_height", "greatest_height")
    least, greatest = [getattr(item, name) for name in names]
    if greatest is not None:
        size = min(size, fraction(greatest))
    return size if least is None else max(size, fraction(least))


class Standing:
    """A page where it stands; outer has for each axis the names that inherited lines have from outside, or None."""

    def __init__(self, page, outer=(None, None)):
        self.page, self.grid, self.outer = page, page.grid, outer

    def count(self, axis, whole):
        if self.outer[AXES.index(axis)] is not None:
            return 0
        return repeats_of(self.grid, axis, whole)

    def line_names(self, axis, count):
        outer = self.outer[AXES.index(axis)]
        if outer is None:
            return lines_of(self.grid, axis, count=max(count, 1))
        lines = [set(names) for names in outer]
        for line, names in enumerate(template(self.grid, axis)[1]):
            if line < len(lines):
                lines[line].update(names)
        # The names that fields give to lines of their own are those of a grid without a template.
        for line, names in enumerate(lines_of(Grid(fields=self.grid.fields), axis)):
            lines[min(line, len(lines) - 1)].update(names)
        return [sorted(names) for names in lines]

    def walk(self, width, height):
        counts = (self.count("column", width), self.count("row", height))
        if self.outer == (None, None):
            return Walk(self, counts, *places(self.page, counts=tuple(max(count, 1) for count in counts)))
        items = []
        many, cuts = [], []
        for axis, count in zip(AXES, counts):
            names = self.line_names(axis, count)
            many.append(len(names) - 1)
            cuts.append(self.outer[AXES.index(axis)] is not None)
            told = [("names", tuple(names[0]))]
            for line in names[1:]:
                told += [1, ("names", tuple(line))]
            meant = [edges_of(Grid(tuple(told)), "column", member.column if axis == "column" else member.row)
                     for member in self.page.members]
            items.append([self.cut(meaning, many[-1]) if cuts[-1] else meaning for meaning in meant])
        turn = 0 if self.grid.flow == "row" else 1
        told = [(member.order, items[turn][k], items[1 - turn][k]) for k, member in enumerate(self.page.members)]
        areas = literal_walk(told, many[turn], self.grid.dense, cuts[turn], cuts[1 - turn], many[1 - turn])
        if turn:
            areas = [area[2:] + area[:2] for area in areas]
        ends = tuple((min([0] + [area[2 * k] for area in areas]), max([many[k]] + [area[2 * k + 1] for area in areas]))
                     for k in (0, 1))
        return Walk(self, counts, areas, ends)

    def cut(self, meaning, many):
        if meaning[0] == "span":
            return ("span", min(meaning[1], many))
        first = min(max(meaning[1], 0), many - 1)
        behind = min(meaning[2], many)
        return ("at", first, behind if behind > first else first + 1)

    def own_widths(self):
        walk = self.walk(None, None)
        sizes = []
        for room in ("least", "most"):
            lanes, found = walk.sized("column", None, room, walk.column_crossings(None))
            sizes.append(sum(found, Fraction(0)) + max(len(found) - 1, 0) * fraction(gap_of(self.grid, "column", None)))
        return tuple(sizes)


class Walk:
    """Where the items of a page lie, for counts of fills and fits."""

    def __init__(self, standing, counts, areas, ends):
        self.standing, self.counts, self.areas, self.ends = standing, counts, areas, ends
        self.grid, self.members = standing.grid, standing.page.members

    def span(self, index, axis):
        return self.areas[index][:2] if axis == "column" else self.areas[index][2:]

    def kept(self, axis):
        """The lanes that did not fall away, and their sizes."""
        k = AXES.index(axis)
        first, behind = self.ends[k]
        grid = Grid(template(self.grid, axis) if self.standing.outer[k] is None else (), more_columns=(
            self.grid.more_columns if axis == "column" else self.grid.more_rows))
        count = self.counts[k]
        told = lane_count(grid, "column", count)
        sizes = lane_sizes(grid, "column", count, first, max(behind, told))
        fallen = fallen_lanes(grid, "column", count, [self.span(index, axis) for index in range(len(self.areas))])
        lanes = [lane for lane in range(first, behind) if lane not in fallen]
        return lanes, [sizes[lane - first] for lane in lanes]

    def sized(self, axis, whole, room, crossings):
        lanes, sizes = self.kept(axis)
        way = self.grid.justify if axis == "column" else self.grid.align
        gap = gap_of(self.grid, axis, whole)
        found = sized_lanes(sizes, gap, crossings, room, stretched=way == "stretch")
        return lanes, [fraction(size) for size in found]

    def crossing(self, axis, whole, item, span, own, margins):
        lanes, sizes = self.kept(axis)
        first, behind = lanes.index(span[0]), lanes.index(span[1] - 1) + 1
        asked = contributions(with_margins(item, axis, margins), axis, tuple(sizes[first:behind]),
                              gap_of(self.grid, axis, whole), whole=whole, own=tuple(number(size) for size in own))
        return (first, behind, asked)

    def inner(self, index):
        outer = []
        for axis, count in zip(AXES, self.counts):
            if inherits(self.members[index].content, axis):
                names = self.standing.line_names(axis, count)
                first, behind = self.span(index, axis)
                outer.append([names[line] if 0 <= line < len(names) else [] for line in range(first, behind + 1)])
            else:
                outer.append(None)
        return Standing(self.members[index].content, tuple(outer))

    def content_widths(self, index):
        content = self.members[index].content
        if isinstance(content, Page):
            return self.inner(index).own_widths()
        return fraction(least_width(content)), fraction(most_width(content))

    def difference(self, index, axis, whole):
        grid = self.members[index].content.grid
        gap = grid.column_gap if axis == "column" else grid.row_gap
        gap = Fraction(0) if isinstance(gap, tuple) and gap[0] == "part" else fraction(gap)
        return gap - fraction(gap_of(self.grid, axis, whole))

    def handed_on(self, index, axis, whole, inner, owns, shims):
        """The crossings of an item whose page inherits its lanes."""
        item, (first, behind) = self.members[index], self.span(index, axis)
        start, end = margins_in(item, axis)
        found = []
        if start + end > 0:
            lanes, _ = self.kept(axis)
            found.append((lanes.index(first), lanes.index(behind - 1) + 1, (number(start + end),) * 5))
        for k, member in enumerate(inner.members):
            inner_first, inner_behind = inner.span(k, axis)
            margins = sum(margins_in(member, axis)) + shims[k]
            margins += start if inner_first == 0 else self.difference(index, axis, whole) / 2
            margins += end if inner_behind == behind - first else self.difference(index, axis, whole) / 2
            span = (first + inner_first, first + inner_behind)
            found.append(self.crossing(axis, whole, member, span, owns[k], margins))
        return found

    def column_crossings(self, whole):
        found = []
        for index, item in enumerate(self.members):
            if inherits(item.content, "column"):
                inner = self.inner(index).walk(None, None)
                owns = [inner.content_widths(k) for k in range(len(inner.members))]
                found += self.handed_on(index, "column", whole, inner, owns, [0] * len(owns))
            else:
                margins = sum(margins_in(item, "column"))
                found.append(self.crossing("column", whole, item, self.span(index, "column"),
                                           self.content_widths(index), margins))
        return found


def aligned(walk, axis, lanes, sizes, room, gap, way):
    """The lanes of an axis as tuples (start, size), all from the first one on."""
    many = len(lanes)
    space = room - sum(sizes) - max(many - 1, 0) * gap
    start = {"end": space, "center": space / 2}.get(way, Fraction(0))
    if space > 0:
        if way == "between" and many >= 2:
            gap += space / (many - 1)
        if way == "around" and many:
            start, gap = space / many / 2, gap + space / many
        if way == "evenly":
            start, gap = space / (many + 1), gap + space / (many + 1)
    starts = {}
    for lane, size in zip(lanes, sizes):
        starts[lane] = (start, size)
        start += size + gap
    found = []
    for lane in range(*walk.ends[AXES.index(axis)]):
        if lane in starts:
            found.append(starts[lane])
        else:
            later = [other for other in lanes if other > lane]
            last = sum(starts[lanes[-1]]) if lanes else Fraction(0)
            found.append((starts[later[0]][0] if later else last, Fraction(0)))
    return found


class Across:
    """A page with its columns at their places, in a width."""

    def __init__(self, standing, width, height, columns=None):
        self.standing, self.width = standing, width
        self.walk = standing.walk(number(width), height)
        self.grid, self.members = self.walk.grid, self.walk.members
        self.columns = columns
        if columns is None:
            whole = number(width)
            lanes, sizes = self.walk.sized("column", whole, whole, self.walk.column_crossings(whole))
            gap = fraction(gap_of(self.grid, "column", whole))
            self.columns = aligned(self.walk, "column", lanes, sizes, width, gap, self.grid.justify)

    def area(self, index):
        return area(self.columns, self.walk.ends[0][0], self.walk.span(index, "column"))

    def way(self, index, axis):
        own = self.members[index].justify if axis == "column" else self.members[index].align
        return own or (self.grid.items_justify if axis == "column" else self.grid.items_align)

    def box(self, index):
        item = self.members[index]
        left, right = margins_in(item, "column")
        start, size = self.area(index)
        room = size - left - right
        if inherits(item.content, "column"):
            return (start + left, max(room, Fraction(0)))
        way = self.way(index, "column")
        if item.width is not None:
            width = fraction(item.width)
        elif way == "stretch":
            width = max(room, Fraction(0))
        else:
            least, most = self.walk.content_widths(index)
            width = min(most, max(least, room))
        width = held(item, "column", width)
        return (start + left + {"end": room - width, "center": (room - width) / 2}.get(way, 0), width)

    def inner(self, index, height):
        item = self.members[index]
        columns = None
        if inherits(item.content, "column"):
            columns = handed_places(self.walk, index, "column", self.columns, number(self.width))
        return Across(self.walk.inner(index), self.box(index)[1], height, columns)

    def content_height(self, index):
        item = self.members[index]
        if isinstance(item.content, Page):
            return None if inherits(item.content, "row") else self.inner(index, None).own_height()
        return fraction(height_in(item.content, number(self.box(index)[1])))

    def base(self, index):
        item = self.members[index]
        if isinstance(item.content, Words):
            return fraction(item.content.base) if item.content.widths else Fraction(0)
        if isinstance(item.content, Block):
            return fraction(item.content.height)
        height = None if item.height is None else held(item, "row", fraction(item.height))
        return Laid(self.inner(index, None if height is None else number(height)), height).first_baseline()

    def is_grouped(self, index):
        return self.way(index, "row") == "baseline" and not inherits(self.members[index].content, "row")

    def shims(self):
        sums = [fraction(item.margins[0]) + self.base(index) if self.is_grouped(index) else None
                for index, item in enumerate(self.members)]
        found = []
        for index in range(len(self.members)):
            group = [sums[k] for k in range(len(sums)) if sums[k] is not None
                     and self.walk.areas[k][2] == self.walk.areas[index][2]]
            found.append(Fraction(0) if sums[index] is None else max(group) - sums[index])
        return found

    def row_crossings(self, whole):
        found, shims = [], self.shims()
        for index, item in enumerate(self.members):
            if inherits(item.content, "row"):
                inner = self.inner(index, None)
                owns = [(inner.content_height(k),) * 2 for k in range(len(inner.members))]
                found += self.walk.handed_on(index, "row", whole, inner.walk, owns, inner.shims())
            else:
                margins = sum(margins_in(item, "row")) + shims[index]
                found.append(self.walk.crossing("row", whole, item, self.walk.span(index, "row"),
                                                (self.content_height(index),) * 2, margins))
        return found

    def own_height(self):
        _, sizes = self.walk.sized("row", None, "most", self.row_crossings(None))
        return sum(sizes, Fraction(0)) + max(len(sizes) - 1, 0) * fraction(gap_of(self.grid, "row", None))


def area(places_of_lanes, first, span):
    start = places_of_lanes[span[0] - first][0]
    return start, sum(places_of_lanes[span[1] - 1 - first]) - start


def handed_places(walk, index, axis, places_of_lanes, whole):
    """The lanes that a page inherits, told from its own corner."""
    first, behind = walk.span(index, axis)
    outer_first = walk.ends[AXES.index(axis)][0]
    start, end = margins_in(walk.members[index], axis)
    half = walk.difference(index, axis, whole) / 2
    found = []
    for lane in range(first, behind):
        begin, size = places_of_lanes[lane - outer_first]
        close = begin + size - (end if lane == behind - 1 else half)
        begin += start if lane == first else half
        found.append((begin, max(close - begin, Fraction(0))))
    origin = found[0][0]
    return [(begin - origin, size) for begin, size in found]


def has_part(size):
    return isinstance(size, tuple) and (size[0] == "part" or (size[0] in ("between", "upto") and any(
        isinstance(inner, tuple) and inner[0] == "part" for inner in size[1:])))


class Laid:
    """A page that is laid out."""

    def __init__(self, across, height, rows=None):
        self.across, self.walk, self.height, self.rows = across, across.walk, height, rows
        grid = self.walk.grid
        if rows is None:
            whole = None if height is None else number(height)
            room = "most" if height is None else whole
            lanes, sizes = self.walk.sized("row", whole, room, across.row_crossings(whole))
            if height is None:
                self.height = across.own_height()
                _, told = self.walk.kept("row")
                if has_part(grid.row_gap) or any(has_part(size) for size in told):
                    whole = number(self.height)
                    lanes, sizes = self.walk.sized("row", whole, whole, across.row_crossings(whole))
            gap = fraction(gap_of(grid, "row", whole))
            self.rows = aligned(self.walk, "row", lanes, sizes, self.height, gap, grid.align)
        self.shims = across.shims()

    def area(self, index):
        return area(self.rows, self.walk.ends[1][0], self.walk.span(index, "row"))

    def box(self, index):
        item = self.walk.members[index]
        above, below = margins_in(item, "row")
        start, size = self.area(index)
        room = size - above - below
        if inherits(item.content, "row"):
            return (start + above, max(room, Fraction(0)))
        way = self.across.way(index, "row")
        if item.height is not None:
            height = fraction(item.height)
        elif way == "stretch":
            height = max(room, Fraction(0))
        else:
            height = self.across.content_height(index)
        height = held(item, "row", height)
        begin = start + above + self.shims[index]
        return (begin + {"end": room - height, "center": (room - height) / 2}.get(way, 0), height)

    def inner(self, index):
        item = self.walk.members[index]
        height = self.box(index)[1]
        if inherits(item.content, "row"):
            rows = handed_places(self.walk, index, "row", self.rows, number(self.height))
            return Laid(self.across.inner(index, number(height)), height, rows)
        if item.height is None and self.across.way(index, "row") != "stretch":
            height = None
        return Laid(self.across.inner(index, None if height is None else number(height)), height)

    def first_baseline(self):
        members, areas = self.walk.members, self.walk.areas
        if not members:
            return self.height
        least = min(entry[2] for entry in areas)
        ones = [index for index in range(len(members)) if areas[index][2] == least]
        for index in ones:
            if self.across.is_grouped(index):
                return self.box(index)[0] + self.across.base(index)
        index = min(ones, key=lambda k: (areas[k][0], members[k].order, k))
        if isinstance(members[index].content, Page):
            return self.box(index)[0] + self.inner(index).first_baseline()
        return self.box(index)[0] + self.across.base(index)


def laid_out(page, width, height=None):
    across = Across(Standing(page), fraction(width), height)
    return Laid(across, None if height is None else fraction(height))


def everything(laid):
    """All numbers of a page that is laid out, and of those in it."""
    members = range(len(laid.walk.members))
    boxes = []
    for index in members:
        (x, width), (y, height) = laid.across.box(index), laid.box(index)
        boxes.append(tuple(number(part) for part in (x, y, width, height)))
    return (
        number(laid.height),
        [(number(start), number(size)) for start, size in laid.across.columns],
        [(number(start), number(size)) for start, size in laid.rows],
        boxes,
        [everything(laid.inner(index)) if isinstance(laid.walk.members[index].content, Page) else None
         for index in members],
    )


def literal_areas(page, width, height=None):
    laid = laid_out(page, width, height)
    found = []
    for index in range(len(page.members)):
        (x, wide), (y, tall) = laid.across.area(index), laid.area(index)
        found.append(tuple(number(part) for part in (x, y, wide, tall)))
    return found


def literal_own_widths(page):
    return tuple(number(width) for width in Standing(page).own_widths())


def literal_own_height(page, width):
    return number(Across(Standing(page), fraction(width), None).own_height())


def literal_shims(page, width, height=None):
    return [number(shim) for shim in laid_out(page, width, height).shims]


def literal_first_baseline(page, width, height=None):
    return number(laid_out(page, width, height).first_baseline())


def literal_work(page, axis, width, height=None):
    across = laid_out(page, width, height).across
    walk, whole, room = across.walk, width, width
    if axis == "row":
        whole, room = height, "most" if height is None else height
        if height is None and (has_part(page.grid.row_gap) or any(has_part(size) for size in walk.kept("row")[1])):
            whole = room = number(across.own_height())
    way = page.grid.justify if axis == "column" else page.grid.align
    crossings = across.row_crossings(whole) if axis == "row" else walk.column_crossings(whole)
    return (tuple(walk.kept(axis)[1]), gap_of(page.grid, axis, whole), crossings, room, way == "stretch")


def literal_boxes(page, width, height=None):
    """The size of a page, and its boxes in places of the whole page, those within an item directly behind it."""
    boxes = []

    def add(laid, left, top):
        for index, item in enumerate(laid.walk.members):
            (x, wide), (y, tall) = laid.across.box(index), laid.box(index)
            boxes.append(tuple(number(part) for part in (left + x, top + y, wide, tall)))
            if isinstance(item.content, Page):
                add(laid.inner(index), left + x, top + y)

    laid = laid_out(page, width, height)
    add(laid, Fraction(0), Fraction(0))
    return (number(laid.across.width), number(laid.height)), boxes
