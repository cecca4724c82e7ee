"""The sessions of the section "Examples" of the document, word for word and in its order."""

SESSIONS = (
    """
>>> from gridlanes.contents import Words, height_in, least_width, lines_in, most_width
>>> w = Words((30, 20, (25, 2)), 5, 12, 9)
>>> [least_width(w), most_width(w), lines_in(w, 55), height_in(w, 55)]
[30, (145, 2), [(0, 2), (2, 3)], 24]
""",
    """
>>> from gridlanes.pages import Grid
>>> Grid((("fill", ("auto",)),))
raises NoGrid('columns', -1)
""",
    """
>>> from gridlanes.contents import Words
>>> from gridlanes.pages import Grid, Item, Page
>>> from gridlanes.pieces import pieces
>>> page = Page(Grid((("between", 30, ("share", 1)), ("between", 10, ("share", 1)))), [Item(Words((), 0, 0, 0))])
>>> [(piece[0], piece[2], piece[5][0][2]) for piece in pieces(page, "width", 0, None)]
[(0, 60, (30, 0)), (60, None, (0, (1, 2)))]
""",
    """
>>> from gridlanes.contents import Words
>>> from gridlanes.pages import Grid, Item, Page
>>> from gridlanes.wishes import holds
>>> page = Page(Grid((("fill", (("between", 40, ("share", 1)),)),)), [Item(Words((), 0, 0, 0))])
>>> holds(page, "width", 0, 200, ("wide", 0, 60))
[(60, True, 80, False)]
""",
    """
>>> from gridlanes.contents import Words
>>> from gridlanes.layouts import layout
>>> from gridlanes.own import own_widths
>>> from gridlanes.pages import Grid, Item, Page
>>> from gridlanes.rows import own_height
>>> p = Page(Grid((30, 'auto'), column_gap=4), [Item(Words((20, 50, 10), 5, 12, 9), column=(2, None))])
>>> (own_widths(p), own_height(p, 100), layout(p, 100).columns, layout(p, 100).boxes)
((84, 124), 24, [(0, 30), (34, 66)], [(34, 0, 66, 24)])
""",
    """
>>> from gridlanes.contents import Words
>>> from gridlanes.pages import Grid, Item, Page
>>> from gridlanes.rows import first_baseline, shims
>>> p = Page(Grid(items_align='baseline'), [Item(Words((10,), 0, 12, 9), column=(1, None), row=(1, None)), Item(Words((10,), 0, 20, 16), column=(2, None), row=(1, None), margins=(5, 0, 0, 0))])
>>> (shims(p, 50), first_baseline(p, 50))
([12, 0], 21)
""",
    """
>>> from gridlanes.contents import Block
>>> from gridlanes.layouts import layout
>>> from gridlanes.own import own_widths
>>> from gridlanes.pages import Grid, Item, Page
>>> q = Page(Grid(('inherited', ()), column_gap=10), [Item(Block(30, 5), column=(1, None)), Item(Block(50, 5), column=(2, None))])
>>> p = Page(Grid(('auto', 'auto')), [Item(q, column=(1, 3))])
>>> (own_widths(p), layout(p, 90).inner[0].columns)
((90, 90), [(0, 30), (40, 50)])
""",
    """
>>> from gridlanes.lanes import sized_lanes
>>> crossings = [(0, 1, (30, 80, 30, 30, 80)), (0, 2, (100, 100, 50, 100, 100))]
>>> [sized_lanes(("auto", ("share", 1), 40), 10, crossings, room) for room in (200, "least", "most")]
[[80, 60, 40], [30, 60, 40], [80, 10, 40]]
""",
    """
>>> from gridlanes.lanes import lane_states
>>> lane_states(("auto", "auto"), 0, [(0, 2, (30, 80, 30, 30, 80))], 100)[-3:]
[(('ends',), (15, 15), (40, 40)), (('grown',), (40, 40), (40, 40)), (('shared',), (40, 40), (40, 40))]
""",
    """
>>> from gridlanes.pages import Grid
>>> from gridlanes.repeats import repeats_of
>>> grid = Grid((50, ("fill", (("between", 100, ("share", 1)),))), column_gap=10)
>>> [repeats_of(grid, "column", 270), repeats_of(grid, "column", (539, 2)), repeats_of(grid, "column", None)]
[2, 1, 1]
""",
    """
>>> from gridlanes.pages import Grid
>>> from gridlanes.repeats import lane_sizes
>>> grid = Grid((50,), more_columns=(10, 20, 30))
>>> lane_sizes(grid, "column", 0, -2, 4)
[20, 30, 50, 10, 20, 30]
""",
    """
>>> from gridlanes.pages import Grid
>>> from gridlanes.repeats import fallen_lanes
>>> grid = Grid((50, ("fit", (100,))))
>>> fallen_lanes(grid, "column", 4, [(0, 2), (3, 4)])
[2, 4]
""",
    """
>>> from gridlanes.contents import Words
>>> from gridlanes.contributions import contributions
>>> from gridlanes.pages import Item
>>> item = Item(Words((30, 20), 5, 12, 9), margins=(0, 1, 0, 1))
>>> [contributions(item, "column", ("auto",), 0), contributions(item, "column", (("share", 1), 10), 4), contributions(item, "column", (("between", "auto", 12), 10), 4)]
[(32, 57, 32, 32, 57), (32, 57, 2, 32, 57), (32, 57, 26, 26, 26)]
""",
    """
>>> from gridlanes.contents import Block
>>> from gridlanes.judging import check_states, work
>>> from gridlanes.pages import Grid, Item, Page
>>> page = Page(Grid(("auto", 40), column_gap=5, justify="start"), [Item(Block(30, 10), column=(1, 2))])
>>> sizes, gap, crossings, room, stretched = work(page, "column", 100)
>>> [sizes, gap, room, stretched, check_states(sizes, gap, crossings, room, [])[0]]
[('auto', 40), 5, 100, False, 0]
""",
    """
>>> from gridlanes.contents import Block
>>> from gridlanes.orders import first_exchange, orders_kept
>>> from gridlanes.pages import Grid, Item, Page
>>> some = [Item(Block(5, 7), order=1), Item(Block(5, 7))]
>>> page = Page(Grid((5,), more_rows=(7,)), some)
>>> [orders_kept(page, 30), first_exchange(page, 30)]
[[(0, 1), (1, 0)], None]
""",
    """
>>> from gridlanes.contents import Block
>>> from gridlanes.moves import least_move
>>> from gridlanes.pages import Grid, Item, Page
>>> some = [Item(Block(10, 4), column=(1, 2), row=(1, 2)), Item(Block(25, 4), column=(1, 2), row=(2, 3)), Item(Block(3, 4), column=(2, 3))]
>>> page = Page(Grid(("auto", "auto"), justify="start"), some)
>>> [least_move(page, ("members", k, "content", "width"), 2, width=500) for k in (0, 1)]
[(15, False), (0, False)]
""",
    """
>>> from gridlanes.contents import Block
>>> from gridlanes.pages import Grid, Item, Page
>>> from gridlanes.texts import page_text, read_page
>>> page = Page(Grid((20, ("share", (1, 2)))), [Item(Block(3, (9, 2)), column=("a", ("span", 2)))])
>>> [page_text(page).split("\\n")[0], page_text(page).split("\\n")[8:11], read_page(page_text(page)) == page]
['columns 20 share(1/2)', ['item 0', '  column a span:2', '  row - -'], True]
""",
)
