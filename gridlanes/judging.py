"""The work by which the lanes of a page get their sizes, and states and boxes judged."""

from gridlanes.axes import check_axis
from gridlanes.boxes import placed_boxes
from gridlanes.crossings import lanes_in
from gridlanes.errors import NoStates
from gridlanes.laying import check_told, laid_page, row_crossings, row_work
from gridlanes.lanes import lane_states
from gridlanes.own import column_crossings
from gridlanes.reckoning import is_integer


def column_arguments(laid):
    """Return the arguments for lane_states with which the columns of a page get their sizes."""
    walked = laid.across.walked
    lanes = lanes_in(walked, "column", laid.across.width)
    crossings = column_crossings(walked, lanes)
    is_stretched = walked.sheet.page.grid.justify == "stretch"
    return (tuple(lanes.sizes), lanes.gap, crossings, laid.across.width, is_stretched)


def row_arguments(laid, height):
    """Return the arguments for lane_states with which the rows of a page get their sizes; height may be None."""
    lanes, room = row_work(laid.across, height)
    crossings = row_crossings(laid.across, lanes)
    is_stretched = laid.across.walked.sheet.page.grid.align == "stretch"
    return (tuple(lanes.sizes), lanes.gap, crossings, room, is_stretched)


def work(page, axis, width, height=None):
    """Return the tuple (sizes, gap, crossings, room, stretched) with which lanes of a page get their sizes."""
    check_told(page, width, height)
    check_axis(axis)
    laid = laid_page(page, width, height)
    return column_arguments(laid) if axis == "column" else row_arguments(laid, height)


def is_same(value, due):
    """Tell whether any value is the one that is due: a tuple, an integer, a string or None."""
    if isinstance(due, tuple):
        if not isinstance(value, tuple) or len(value) != len(due):
            return False
        return all([is_same(part, due_part) for part, due_part in zip(value, due)])
    if isinstance(due, str):
        return isinstance(value, str) and value == due
    return value is None if due is None else is_integer(value) and value == due


def first_wrong(told, due):
    """Return (index, what is due there) for the first item that is not due, None if there is none."""
    for index, value in enumerate(told):
        if index == len(due):
            return (index, None)
        if not is_same(value, due[index]):
            return (index, due[index])
    return (len(told), due[len(told)]) if len(told) < len(due) else None


def check_states(sizes, gap, crossings, room, states, *, stretched=False):
    """Judge states: None if they are right, otherwise (index, what is due there)."""
    due = lane_states(sizes, gap, crossings, room, stretched=stretched)
    if not isinstance(states, (list, tuple)):
        raise NoStates()
    return first_wrong(states, due)


def check_layout(page, boxes, width, height=None):
    """Judge the boxes of a page: None if they are right, otherwise (index, what is due there)."""
    check_told(page, width, height)
    if not isinstance(boxes, (list, tuple)):
        raise NoStates()
    return first_wrong(boxes, placed_boxes(laid_page(page, width, height)))
