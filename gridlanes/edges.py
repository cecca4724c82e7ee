"""Edges: what an item may tell of where its area begins and ends."""

from gridlanes.names import is_marked, is_name
from gridlanes.reckoning import is_integer

FURTHEST_LINE = 30


def is_span_count(value):
    """Tell whether an edge may span so many lanes."""
    return is_integer(value) and 1 <= value <= FURTHEST_LINE


def is_line_count(value):
    """Tell whether an edge may count lines by this integer, from the first one or from the last one."""
    return is_integer(value) and 1 <= abs(value) <= FURTHEST_LINE


def is_edge(value):
    """Tell whether a value is an EDGE."""
    if value is None or is_line_count(value) or is_name(value):
        return True
    if is_marked(value, "span", 2):
        return is_span_count(value[1])
    if is_marked(value, "span", 3):
        return is_span_count(value[1]) and is_name(value[2])
    return isinstance(value, tuple) and len(value) == 2 and is_name(value[0]) and is_line_count(value[1])


def are_edges(value):
    """Tell whether a value is a tuple of two EDGES, a start and an end."""
    return isinstance(value, tuple) and len(value) == 2 and is_edge(value[0]) and is_edge(value[1])
