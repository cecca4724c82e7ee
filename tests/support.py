"""What the tests share: values of all kinds, and what a call raises."""

import sys
import unittest

from gridlanes.contents import Block, Words
from gridlanes.errors import LaneError, NoContent, NoItem
from gridlanes.layouts import layout
from gridlanes.pages import Grid, Item, Page

HUGE = 10 ** 60


def some_function():
    return 0


def plain_values():
    """Values of built-in types that some place or other allows, by labels."""
    return {
        "none": None,
        "true": True,
        "false": False,
        "zero": 0,
        "one": 1,
        "minus one": -1,
        "huge": HUGE,
        "minus huge": -HUGE,
        "half": (1, 2),
        "minus half": (-1, 2),
        "no text": "",
        "name": "a",
        "dot": ".",
        "span": "span",
        "auto": "auto",
        "start": "start",
        "stretch": "stretch",
        "between": "between",
        "baseline": "baseline",
        "row": "row",
        "figures": "12",
        "no tuple items": (),
        "no list items": [],
        "list of integers": [1, 2],
        "tuple of integers": (3, 4, 5),
        "four integers": (1, 2, 3, 4),
        "tuple of auto": ("auto",),
        "tuple of none": (None, None),
        "tuple of names": ("a", "b"),
        "name and integer": ("a", 1),
        "part": ("part", 1),
        "share": ("share", 1),
        "rows of words": (("a", "."),),
        "inherited": ("inherited", ()),
        "list of auto": ["auto"],
    }


def strange_values():
    """Values of other built-in types, and tuples that are almost what is asked for, by labels."""
    return {
        "ellipsis": ...,
        "not implemented": NotImplemented,
        "complex zero": 0j,
        "complex one": 1 + 0j,
        "bytes": b"auto",
        "no bytes": b"",
        "bytearray": bytearray(b"row"),
        "memoryview": memoryview(b"row"),
        "tuple of a tuple": ((),),
        "two fourths": (2, 4),
        "one whole": (1, 1),
        "no bottom": (1, 0),
        "bottom below": (1, -2),
        "no top": (0, 2),
        "bool on top": (True, 2),
        "bool below": (3, True),
        "bytes mark": (b"part", 1),
        "none mark": (None, 1),
        "list mark": ([], 1),
        "list of six": [1, 2, 3, 4, 5, None],
        "no dict items": {},
        "dict": {0: 1, "auto": "auto"},
        "keys": {"auto": 1}.keys(),
        "values": {"auto": 1}.values(),
        "items": {"auto": 1}.items(),
        "no members": set(),
        "set": {1, 2},
        "frozenset": frozenset(("auto",)),
        "range": range(3),
        "slice": slice(0, 2),
        "class int": int,
        "class type": type,
        "class Words": Words,
        "class Page": Page,
        "builtin function": len,
        "function": some_function,
        "method": "auto".lower,
        "generator": (k for k in (1, 2)),
        "iterator": iter([1, 2]),
        "enumerate": enumerate([1]),
        "zip": zip([1], [2]),
        "map": map(str, [1]),
        "filter": filter(None, [1]),
        "reversed": reversed([1, 2]),
        "object": object(),
        "module": sys,
        "property": property(some_function),
        "static method": staticmethod(some_function),
        "value error": ValueError("auto"),
        "lane error": LaneError("auto"),
        "no content": NoContent("widths", 0),
        "no item": NoItem("content"),
    }


def own_values():
    """An object of each class of contents and pages, by labels."""
    return {
        "words": Words((3,), 1, 2, 1),
        "block": Block(1, 2),
        "grid": Grid(),
        "item": Item(Block(1, 2)),
        "page": Page(Grid()),
        "layout": layout(Page(Grid()), 5),
    }


def all_values():
    """Values of all kinds, by labels."""
    return {**plain_values(), **strange_values(), **own_values()}


def raised(call, /, *given, **named):
    """Return (class, fields) of the error that a call raises, None if it raises none."""
    try:
        call(*given, **named)
    except LaneError as error:
        return (error.__class__, dict(vars(error)))
    return None


class Case(unittest.TestCase):
    """A test case that knows the errors of the package."""

    def check_raises(self, kind, fields, call, /, *given, **named):
        self.assertEqual(raised(call, *given, **named), (kind, fields))

    def check_place(self, kind, fields, call, allowed):
        """Call it with each of all values: those that are allowed raise nothing, the others this error."""
        values = all_values()
        self.assertEqual([label for label in allowed if label not in values], [])
        for label in values:
            with self.subTest(value=label):
                due = None if label in allowed else (kind, fields)
                self.assertEqual(raised(call, values[label]), due)

    def check_numbers(self, found, due):
        """Check for equal values of equal kinds, since 1 == True in Python."""
        self.assertEqual(repr(found), repr(due))
