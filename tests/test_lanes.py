"""Promises [35] to [43]: the states of lanes, each step by itself."""

import itertools
import unittest

from gridlanes.errors import NoCrossings, NoNumber, NoSizes
from gridlanes.lanes import lane_states, sized_lanes
from gridlanes.reckoning import is_length
from tests.support import Case, HUGE, all_values

HALF = (1, 2)


def share(k):
    return ("share", k)


def between(low, high):
    return ("between", low, high)


def part(k):
    return ("part", k)


def upto(k):
    return ("upto", k)


def asks(first, behind, least, most, minimum=None, limited_least=None, limited_most=None):
    """A crossing; what is not told is as for an item over lanes without limits."""
    minimum = least if minimum is None else minimum
    limited_least = least if limited_least is None else limited_least
    return (first, behind, (least, most, minimum, limited_least, most if limited_most is None else limited_most))


class StepsTest(Case):

    def state(self, step, sizes, crossings, room, gap=0, stretched=False):
        """The bases and limits of the state behind a step."""
        for told, bases, limits in lane_states(sizes, gap, crossings, room, stretched=stretched):
            if told == step:
                return (list(bases), list(limits))
        return None

    def check(self, step, sizes, crossings, room, bases, limits, **named):
        self.check_numbers(self.state(step, sizes, crossings, room, **named), (bases, limits))

    def check_bases(self, step, sizes, crossings, room, bases, **named):
        self.check_numbers(self.state(step, sizes, crossings, room, **named)[0], bases)

    def steps(self, sizes, crossings, room, **named):
        return [state[0] for state in lane_states(sizes, 0, crossings, room, **named)]


class WhichStepsTest(StepsTest):

    def test_none_but_the_ever_present(self):
        due = [("begin",), ("single",), ("ends",), ("grown",), ("shared",)]
        for room in (0, 100, "least", "most"):
            for sizes in ((), (5,), ("auto", share(1))):
                self.assertEqual(self.steps(sizes, [], room), due)
                self.assertEqual(self.steps(sizes, [], room, stretched=True), due + [("stretched",)])
        self.assertEqual(self.steps(("auto",), [asks(0, 1, 5, 5)], 5), due)

    def test_steps_across(self):
        words = ["minimum", "least", "most", "limits", "most limits"]
        crossings = [asks(0, 3, 1, 1), asks(1, 3, 1, 1), asks(0, 3, 1, 1), asks(2, 3, 1, 1)]
        for room in (100, "least"):
            self.assertEqual(self.steps((5, 5, 5), crossings, room)[2:-3],
                             [("across", many, word) for many in (2, 3) for word in words])
        words.insert(2, "limited")
        self.assertEqual(self.steps((5, 5, 5), crossings, "most")[2:-3],
                         [("across", many, word) for many in (2, 3) for word in words])

    def test_steps_of_shares(self):
        for crossing in (asks(0, 1, 1, 1), asks(0, 2, 1, 1), asks(0, 3, 1, 1)):
            words = ["minimum", "least", "most"]
            self.assertEqual(self.steps((share(1), 5, 5), [crossing], 5)[2:-3], [("shares", word) for word in words])
            self.assertEqual(self.steps((between(5, share(0)), 5, 5), [crossing], "least")[2:-3],
                             [("shares", word) for word in words])
            words.insert(2, "limited")
            self.assertEqual(self.steps((share(1), 5, 5), [crossing], "most")[2:-3], [("shares", word) for word in words])
        self.assertEqual(self.steps((share(1), 5, 5), [asks(1, 2, 1, 1)], 5)[2:-3], [])

    def test_across_comes_ahead_of_shares(self):
        found = self.steps((5, 5, share(1)), [asks(1, 3, 1, 1), asks(0, 2, 1, 1)], 5)
        self.assertEqual([step[0] for step in found],
                         ["begin", "single"] + ["across"] * 5 + ["shares"] * 3 + ["ends", "grown", "shared"])
        self.assertEqual(found[2][1], 2)


class BeginTest(StepsTest):

    def test_lows_and_highs(self):
        for size, base, limit in ((7, 7, 7), ((7, 2), (7, 2), (7, 2)), (0, 0, 0), ("auto", 0, None), ("least", 0, None),
                                  ("most", 0, None), (share(2), 0, None), (upto(9), 0, None),
                                  (between(3, 8), 3, 8), (between(8, 3), 8, 8), (between("auto", 8), 0, 8),
                                  (between("most", 0), 0, 0), (between(3, "least"), 3, None),
                                  (between(3, share(1)), 3, None), (between(3, "most"), 3, None)):
            for room in (0, 50, "least", "most"):
                self.check(("begin",), (size,), [asks(0, 1, 90, 99)], room, [base], [limit])

    def test_parts(self):
        for size, base, limit in ((part(HALF), 25, 25), (part(0), 0, 0), (between(part((1, 5)), 8), 10, 10),
                                  (between("auto", part((1, 5))), 0, 10), (between(3, part(1)), 3, 50)):
            self.check(("begin",), (size,), [], 50, [base], [limit])
        for size, base, limit in ((part(HALF), 0, None), (between(part((1, 5)), 8), 0, 8),
                                  (between(3, part(1)), 3, None)):
            for room in ("least", "most"):
                self.check(("begin",), (size,), [], room, [base], [limit])


class SingleTest(StepsTest):

    def check_single(self, size, room, base, limit, crossings=None):
        # Five contributions of which no two are the same.
        crossing = (0, 1, (20, 50, 11, 14, 33))
        self.check(("single",), (size,), [crossing] if crossings is None else crossings, room, [base], [limit])

    def test_lows(self):
        for room, base in ((90, 11), ("least", 14), ("most", 33)):
            self.check_single("auto", room, base, 50)
            self.check_single("least", room, 20, 20)
            self.check_single("most", room, 50, 50)
            self.check_single(7, room, 7, 7)
            self.check_single(between(7, "auto"), room, 7, 50)

    def test_highs(self):
        for room in (90, "least", "most"):
            self.check_single(between(7, "least"), room, 7, 20)
            self.check_single(between(7, "most"), room, 7, 50)
            self.check_single(between(7, "auto"), room, 7, 50)
            self.check_single(between(7, 9), room, 7, 9)
            self.check_single(between(70, "most"), room, 70, 70)

    def test_caps(self):
        for cap, limit in ((60, 50), (50, 50), (40, 40), (20, 20), (12, 12), (5, 11)):
            self.check_single(upto(cap), 90, 11, limit)
        self.check_single(upto(5), "least", 14, 14)
        self.check_single(upto(5), "most", 33, 33)
        self.check_single(upto(part(HALF)), 60, 11, 30)
        self.check_single(upto(part(HALF)), "least", 14, 50)

    def test_limits_are_at_least_bases(self):
        self.check_single(between("auto", 5), 90, 11, 11)
        self.check_single(between("most", 5), 90, 50, 50)
        self.check_single(between("most", "least"), 90, 50, 50)
        self.check_single(between("least", "auto"), 90, 20, 50)

    def test_lanes_with_shares_wait(self):
        for size in (share(1), between("most", share(2))):
            for room in (90, "least", "most"):
                self.check_single(size, room, 0, None)
        self.check_single(between(6, share(2)), 90, 6, None)

    def test_several_items(self):
        crossings = [(0, 1, (20, 50, 11, 14, 33)), (0, 1, (25, 40, 12, 13, 35)), (0, 1, (5, 45, 8, 15, 30))]
        for room, base in ((90, 12), ("least", 15), ("most", 35)):
            self.check_single("auto", room, base, 50, crossings)
            self.check_single("least", room, 25, 25, crossings)
            self.check_single("most", room, 50, 50, crossings)

    def test_no_items(self):
        for size in ("auto", "least", "most", upto(5)):
            self.check_single(size, 90, 0, None, [])
        self.check(("single",), ("auto", "auto"), [asks(0, 2, 9, 9), asks(1, 2, 5, 7)], 90, [0, 5], [None, 7])


class AcrossTest(StepsTest):

    def check_across(self, word, sizes, crossings, room, bases, limits, many=2, **named):
        self.check(("across", many, word), sizes, crossings, room, bases, limits, **named)

    def test_minimum_equally(self):
        crossing = (0, 2, (60, 90, 30, 40, 70))
        for room, base in ((100, 15), ("least", 20), ("most", 20)):
            self.check_across("minimum", ("auto", "auto"), [crossing], room, [base, base], [None, None])
            self.check_across("minimum", ("least", "most"), [crossing], room, [base, base], [None, None])
        self.check_across("minimum", ("auto", "auto", "auto"), [(0, 3, (60, 90, 31, 40, 70))], 100,
                          [(31, 3)] * 3, [None] * 3, many=3)

    def test_only_lanes_in_question(self):
        crossing = (0, 2, (60, 90, 30, 40, 70))
        self.check_across("minimum", ("auto", 10), [crossing], 100, [20, 10], [None, 10])
        self.check_across("minimum", (between(4, "auto"), "auto"), [crossing], 100, [4, 26], [None, None])
        self.check_across("minimum", (4, between(5, "auto")), [crossing], 100, [4, 5], [4, None])

    def test_the_space(self):
        for gap, base in ((0, 15), (8, 11), (30, 0), (40, 0)):
            self.check_across("minimum", ("auto", "auto"), [(0, 2, (60, 90, 30, 40, 70))], 100, [base] * 2, [None] * 2,
                              gap=gap)
        self.check_across("minimum", ("auto", "auto"), [asks(0, 1, 20, 20), (0, 2, (60, 90, 30, 40, 70))], 100,
                          [20, 10], [20, None])
        self.check_across("minimum", ("auto", "auto"), [asks(0, 1, 20, 28), (0, 2, (60, 90, 30, 40, 70))], 100,
                          [25, 5], [28, None])
        self.check_across("minimum", ("auto", "auto"), [asks(0, 1, 40, 40), (0, 2, (60, 90, 30, 40, 70))], 100,
                          [40, 0], [40, None])

    def test_up_to_limits_and_beyond(self):
        crossing = (0, 2, (60, 90, 30, 40, 70))
        self.check_across("minimum", (between("auto", 5), "auto"), [crossing], 100, [5, 25], [5, None])
        self.check_across("minimum", (between("auto", 5), between("auto", 8)), [crossing], 100,
                          [(27, 2), (33, 2)], [5, 8])
        single = asks(0, 1, 4, 10)
        self.check_across("minimum", ("auto", between("auto", 8)), [single, crossing], 100, [22, 8], [10, 8])
        self.check_across("minimum", ("auto", between("auto", 8)), [single, asks(0, 2, 12, 50)], 100, [8, 4], [10, 8])
        self.check_across("minimum", (between("auto", "least"), between("auto", "least")),
                          [asks(0, 1, 4, 10), asks(1, 2, 6, 10), crossing], 100, [14, 16], [4, 6])

    def test_caps_stop_those_that_take_more(self):
        crossing = asks(0, 2, 60, 90)
        self.check_across("minimum", (upto(10), "auto"), [crossing], 100, [10, 50], [None, None])
        self.check_across("minimum", (upto(10), between("auto", 20)), [crossing], 100, [25, 35], [None, 20])
        self.check_across("minimum", (upto(10), upto(40)), [crossing], 100, [15, 45], [None, None])
        self.check_across("minimum", (upto(40), upto(40)), [crossing], 100, [30, 30], [None, None])
        single = asks(0, 1, 4, 8)
        self.check_across("minimum", (upto(10), between("auto", 20)), [single, crossing], 100, [25, 35], [8, 20])
        self.check_across("minimum", (upto(10), between("auto", 20)), [single, asks(0, 2, 30, 30)], 100,
                          [10, 20], [8, 20])
        self.check_across("minimum", (upto(10), between("auto", 20)), [single, asks(0, 2, 29, 29)], 100,
                          [9, 20], [8, 20])

    def test_caps_below_limits(self):
        # Two lanes ask for a limit of 60, although the cap is 40; three lanes then grow up to the cap alone.
        crossings = [(0, 2, (60, 60, 10, 60, 60)), (0, 3, (0, 0, 90, 0, 0))]
        sizes = (upto(40), 0, "auto")
        self.check_across("most limits", sizes, crossings, 100, [10, 0, 0], [60, 0, None])
        self.check_across("minimum", sizes, crossings, 100, [40, 0, 50], [60, 0, None], many=3)

    def test_least(self):
        crossing = (0, 2, (60, 90, 30, 40, 70))
        for room, base in ((100, 15), ("least", 20), ("most", 20)):
            self.check_across("least", ("least", "most"), [crossing], room, [30, 30], [None, None])
            self.check_across("least", ("auto", "least"), [crossing], room, [base, 60 - base], [None, None])
            self.check_across("least", ("auto", "auto"), [crossing], room, [base, base], [None, None])
        self.check_across("least", (between("least", 5), between("least", "least")), [crossing], 100,
                          [5, 55], [5, None])
        self.check_across("least", (between("least", 5), between("most", 5)), [asks(0, 2, 60, 90, 0)], 100,
                          [30, 30], [5, 5])

    def test_limited(self):
        crossing = (0, 2, (60, 90, 30, 40, 70))
        self.check_across("limited", ("auto", "auto"), [crossing], "most", [35, 35], [None, None])
        self.check_across("limited", ("auto", "most"), [crossing], "most", [25, 45], [None, None])
        self.check_across("limited", ("least", "auto"), [crossing], "most", [40, 30], [None, None])
        self.check_across("limited", ("least", "least"), [crossing], "most", [30, 30], [None, None])
        self.assertIsNone(self.state(("across", 2, "limited"), ("auto", "auto"), [crossing], 100))
        self.assertIsNone(self.state(("across", 2, "limited"), ("auto", "auto"), [crossing], "least"))

    def test_most(self):
        crossing = (0, 2, (60, 90, 30, 40, 70))
        self.check_across("most", ("most", "most"), [crossing], 100, [45, 45], [None, None])
        self.check_across("most", ("auto", "most"), [crossing], 100, [15, 75], [None, None])
        self.check_across("most", ("least", "most"), [crossing], 100, [30, 60], [None, None])
        self.check_across("most", ("least", "auto"), [crossing], 100, [45, 15], [None, None])
        self.check_across("most", (between("most", 5), "auto"), [crossing], 100, [65, 25], [65, None])

    def test_who_takes_more_of_most_contributions(self):
        singles = [asks(0, 1, 4, 10), asks(1, 2, 6, 10)]
        # Both lows are most; only the first high is auto, so it takes what is beyond both limits.
        sizes = (between("most", "auto"), between("most", "least"))
        self.check_across("most", sizes, singles + [asks(0, 2, 0, 50)], 100, [40, 10], [40, 10])
        sizes = (between("most", "least"), between("most", "least"))
        self.check_across("most", sizes, singles + [asks(0, 2, 0, 50)], 100, [25, 25], [25, 25])

    def test_limits_are_raised_behind_most(self):
        crossing = asks(0, 2, 60, 90)
        sizes = (between("auto", 5), between("auto", 8))
        self.check_across("minimum", sizes, [crossing], 100, [(57, 2), (63, 2)], [5, 8])
        self.check_across("least", sizes, [crossing], 100, [(57, 2), (63, 2)], [5, 8])
        self.check_across("most", sizes, [crossing], 100, [(57, 2), (63, 2)], [(57, 2), (63, 2)])

    def test_limits(self):
        crossing = (0, 2, (60, 90, 30, 40, 70))
        self.check_across("limits", ("auto", "auto"), [crossing], 100, [15, 15], [30, 30])
        self.check_across("limits", ("auto", between("auto", 10)), [crossing], 100, [20, 10], [50, 10])
        self.check_across("limits", ("auto", 10), [crossing], 100, [20, 10], [50, 10])
        self.check_across("limits", (between(8, "least"), between(9, "most")), [crossing], 100, [8, 9],
                          [(59, 2), (61, 2)])
        # A limit with an end has no room, unless all have one.
        singles = [asks(0, 1, 10, 20)]
        self.check_across("limits", ("auto", "auto"), singles + [crossing], 100, [20, 10], [20, 40])

    def test_a_limit_without_an_end_becomes_the_base_also_for_nothing(self):
        crossing = asks(0, 2, 5, 5)
        self.check_across("limits", (between(20, "auto"), between(8, "least")), [crossing], 100, [20, 8], [20, 8])
        self.check_across("limits", (between(20, "auto"), between(8, "auto"), between(3, "auto")), [crossing], 100,
                          [20, 8, 3], [20, 8, None])

    def test_most_limits(self):
        crossing = (0, 2, (60, 90, 30, 40, 70))
        self.check_across("most limits", ("auto", "auto"), [crossing], 100, [15, 15], [45, 45])
        self.check_across("most limits", ("least", "auto"), [crossing], 100, [45, 15], [45, 45])
        self.check_across("most limits", ("least", "least"), [crossing], 100, [30, 30], [30, 30])
        # Those that had no end before take it, not those that had one.
        singles = [asks(0, 1, 10, 20)]
        self.check_across("most limits", ("auto", "auto"), singles + [crossing], 100, [20, 10], [20, 70])

    def test_caps_of_limits(self):
        crossing = asks(0, 2, 60, 90)
        self.check_across("limits", (upto(10), "auto"), [crossing], 100, [10, 50], [10, 50])
        self.check_across("most limits", (upto(10), "auto"), [crossing], 100, [10, 50], [10, 80])
        self.check_across("most limits", (upto(40), upto(40)), [crossing], 100, [30, 30], [40, 40])
        self.check_across("most limits", (upto(40), upto(70)), [crossing], 100, [30, 30], [40, 50])
        self.check_across("most limits", (upto(40), 0), [asks(0, 2, 60, 90, 10)], 100, [10, 0], [60, 0])
        # Also where limits with an end take what is left.
        singles = [asks(0, 1, 10, 20), asks(1, 2, 10, 20)]
        self.check_across("most limits", (upto(30), upto(90)), singles + [asks(0, 2, 0, 90)], 100, [10, 10], [30, 60])
        self.check_across("most limits", (upto(30), upto(40)), singles + [asks(0, 2, 0, 90)], 100, [10, 10], [30, 40])

    def test_all_ask_at_once(self):
        crossings = [asks(0, 2, 20, 20), asks(1, 3, 50, 50), asks(1, 3, 40, 90)]
        self.check_across("minimum", ("auto", "auto", "auto"), crossings, 100, [10, 25, 25], [None] * 3)
        self.check_across("limits", ("auto", "auto", "auto"), crossings, 100, [10, 25, 25], [10, 25, 25])
        self.check_across("most limits", ("auto", "auto", "auto"), crossings, 100, [10, 25, 25], [10, 45, 45])

    def test_fewer_lanes_come_first(self):
        crossings = [asks(0, 3, 90, 90), asks(0, 2, 20, 20)]
        self.check_across("minimum", ("auto", "auto", "auto"), crossings, 100, [10, 10, 0], [None] * 3)
        self.check_across("minimum", ("auto", "auto", "auto"), crossings, 100, [10, 10, 70], [10, 10, None], many=3)
        self.check_across("minimum", ("auto", "auto", 5), crossings, 100, [(85, 2), (85, 2), 5], [10, 10, 5], many=3)

    def test_items_that_cross_shares_wait(self):
        crossings = [asks(0, 2, 40, 40), asks(1, 3, 30, 30)]
        self.check_across("most limits", (share(1), "auto", "auto"), crossings, 100, [0, 15, 15], [None, 15, 15])
        self.assertIsNone(self.state(("across", 2, "minimum"), ("auto", share(1), "auto"), crossings, 100))


class SharesTest(StepsTest):

    def check_shares(self, word, sizes, crossings, room, bases, **named):
        self.check_bases(("shares", word), sizes, crossings, room, bases, **named)

    def test_by_the_numbers_of_the_shares(self):
        crossing = (0, 2, (60, 90, 30, 40, 70))
        for shares, bases in (((1, 1), [15, 15]), ((1, 2), [10, 20]), ((0, 2), [0, 30]), ((0, 0), [15, 15]),
                              ((HALF, (1, 4)), [20, 10])):
            self.check_shares("minimum", (share(shares[0]), share(shares[1])), [crossing], 100, bases)

    def test_only_lanes_with_shares(self):
        crossing = (0, 2, (60, 90, 30, 40, 70))
        for other, base in (("auto", 0), (12, 12), ("most", 0)):
            self.check_shares("minimum", (other, share(3)), [crossing], 100, [base, 30 - base])
        self.check_shares("minimum", (share(1), between(9, share(1))), [crossing], 100, [21, 9])

    def test_items_over_one_lane_and_more(self):
        crossings = [asks(0, 1, 10, 20), asks(0, 2, 30, 30), asks(1, 2, 8, 8)]
        self.check_shares("minimum", (share(1), share(1)), crossings, 100, [15, 15])
        self.check_shares("minimum", (share(1), share(1)), [asks(0, 1, 25, 25), asks(0, 2, 30, 30)], 100, [25, 15])
        self.check_shares("minimum", (share(1), share(1)), crossings, 100, [13, 13], gap=4)

    def test_words_and_lows(self):
        crossing = (0, 1, (60, 90, 30, 40, 70))
        for size, room, bases in ((share(1), 100, [30, 30, None, 30]), (share(1), "least", [40, 40, None, 40]),
                                  (share(1), "most", [40, 40, 70, 70]),
                                  (between("least", share(1)), 100, [30, 60, None, 60]),
                                  (between("least", share(1)), "most", [40, 60, 60, 60]),
                                  (between("most", share(1)), 100, [30, 60, None, 90]),
                                  (between("most", share(1)), "most", [40, 60, 70, 90]),
                                  (between(7, share(1)), "most", [7, 7, 7, 7])):
            for word, base in zip(("minimum", "least", "limited", "most"), bases):
                if base is not None:
                    self.check_shares(word, (size,), [crossing], room, [base])

    def test_the_sum_of_those_in_question(self):
        # Only the lane with share 0 is in question, so it gets all.
        crossing = asks(0, 2, 60, 90)
        self.check_shares("minimum", (share(0), between(10, share(2))), [crossing], 100, [50, 10])

    def test_limits_have_no_end(self):
        state = self.state(("shares", "most"), (share(1), 5), [asks(0, 2, 60, 90)], 100)
        self.assertEqual(state, ([55, 5], [None, 5]))
        state = self.state(("ends",), (share(1), 5), [asks(0, 2, 60, 90)], 100)
        self.assertEqual(state, ([55, 5], [55, 5]))


class EndsTest(StepsTest):

    def test_limits_become_bases(self):
        self.check(("ends",), ("auto", between(7, "auto"), share(1), 5), [], 100, [0, 7, 0, 5], [0, 7, 0, 5])
        self.check(("ends",), ("auto", between(7, 9)), [asks(0, 1, 5, 8)], 100, [5, 7], [8, 9])


class GrownTest(StepsTest):

    def test_equally_up_to_limits(self):
        sizes = (between(5, 20), between(10, 12), 8)
        for room, bases in ((0, [5, 10, 8]), (23, [5, 10, 8]), (24, [(11, 2), (21, 2), 8]), (27, [7, 12, 8]),
                            (30, [10, 12, 8]), (40, [20, 12, 8]), (90, [20, 12, 8])):
            self.check(("grown",), sizes, [], room, bases, [20, 12, 8])
        self.check_bases(("grown",), sizes, [], 30, [7, 12, 8], gap=(3, 2))

    def test_without_a_length(self):
        sizes = (between(5, 20), between(10, 12), 8)
        self.check(("grown",), sizes, [], "least", [5, 10, 8], [20, 12, 8])
        self.check(("grown",), sizes, [], "most", [20, 12, 8], [20, 12, 8])


class SharedTest(StepsTest):

    def check_shared(self, sizes, crossings, room, bases, **named):
        self.check_bases(("shared",), sizes, crossings, room, bases, **named)

    def test_the_whole_room(self):
        self.check_shared((share(1), share(3)), [], 100, [25, 75])
        self.check_shared((share(1), share(3)), [], 100, [24, 72], gap=4)
        self.check_shared((share(1), 20, share(3)), [], 100, [20, 20, 60])
        self.check_shared((share(0), share(2)), [], 100, [0, 100])
        self.check_shared((share(1),), [], 0, [0])
        self.check_shared((share(1),), [], HALF, [HALF])

    def test_shares_below_1_in_sum(self):
        self.check_shared((share(HALF),), [], 100, [50])
        self.check_shared((share(HALF), share((1, 4))), [], 100, [50, 25])
        self.check_shared((share(HALF), share(HALF)), [], 100, [50, 50])
        self.check_shared((share(0), share(0)), [], 100, [0, 0])

    def test_bases_that_are_more(self):
        self.check_shared((between(40, share(1)), share(1)), [], 100, [50, 50])
        self.check_shared((between(60, share(1)), share(1)), [], 100, [60, 40])
        self.check_shared((between(60, share(1)), share(1), between(30, share(1))), [], 100, [60, 10, 30])
        self.check_shared((between(40, share(1)), share(1), between(34, share(1))), [], 100, [40, 26, 34])
        # Left with a share below 1, one share is what is left.
        self.check_shared((between(90, share(1)), share(HALF)), [], 100, [90, 5])
        self.check_shared((between(20, share(0)), share(2)), [], 100, [20, 80])

    def test_nothing_left(self):
        self.check_shared((between(60, share(1)), between(40, share(1))), [], 100, [60, 40])
        self.check_shared((between(60, share(1)), share(1)), [], 60, [60, 0])
        self.check_shared((between(60, share(1)), share(1)), [], 50, [60, 0])
        self.check_shared((between(60, share(1)), share(1)), [], 60, [60, 0], gap=1)

    def test_lanes_without_shares_have_grown(self):
        self.check_shared((between(5, 20), share(1)), [], 100, [20, 80])
        self.check_shared(("auto", share(1)), [asks(0, 1, 10, 30)], 100, [30, 70])

    def test_the_room_least(self):
        self.check_shared((share(1), 10), [asks(0, 1, 25, 60)], "least", [25, 10])
        self.check_shared((share(1), share(2)), [asks(0, 1, 25, 60)], "least", [25, 0])

    def test_the_room_most(self):
        self.check_shared((share(1), share(3)), [asks(0, 1, 25, 60)], "most", [60, 180])
        self.check_shared((share(2), share(3)), [asks(0, 1, 25, 60)], "most", [60, 90])
        self.check_shared((share(HALF), share(1)), [asks(0, 1, 25, 60)], "most", [60, 60])
        self.check_shared((share(0), share(1)), [asks(0, 1, 25, 60)], "most", [60, 60])
        self.check_shared((share(1), share(1), 7), [asks(0, 3, 25, 90)], "most", [(83, 2), (83, 2), 7])
        self.check_shared((share(1), share(1), 7), [asks(0, 3, 25, 90)], "most", [(79, 2), (79, 2), 7], gap=2)
        self.check_shared((share(1), share(1)), [], "most", [0, 0])
        self.check_shared((between(12, share(2)), share(1)), [], "most", [12, 6])

    def test_the_room_most_by_one_share_of_items(self):
        # The item asks most for the first two lanes: one share of these is 100 less 30, and 40 by halves.
        sizes = (between(30, share(1)), share(1), share(1))
        self.check_shared(sizes, [(0, 2, (0, 100, 0, 0, 0))], "most", [50, 50, 50])
        sizes = (between(70, share(1)), share(1), share(1))
        self.check_shared(sizes, [(0, 2, (0, 100, 0, 0, 0))], "most", [70, 70, 70])
        sizes = (share(HALF), share((1, 4)))
        self.check_shared(sizes, [(0, 2, (0, 100, 0, 0, 0))], "most", [50, 25])
        sizes = (5, share(1), 7, 9)
        self.check_shared(sizes, [(1, 3, (0, 100, 0, 0, 0))], "most", [5, 90, 7, 9], gap=3)
        # No lane of the item is left, so one share of it is 0, and that of the base is what counts.
        sizes = (between(15, share((1, 10))), share(1))
        self.check_shared(sizes, [(0, 1, (0, 100, 0, 0, 0))], "most", [15, 15])
        sizes = (between(HALF, share((1, 1000))), share(1))
        self.check_shared(sizes, [(0, 1, (0, 100, 0, 0, 0))], "most", [HALF, HALF])
        sizes = (between(80, share(2)), share(1))
        self.check_shared(sizes, [(0, 2, (0, 90, 0, 0, 0))], "most", [80, 40])


class StretchedTest(StepsTest):

    def check_stretched(self, sizes, crossings, room, bases, **named):
        self.check_bases(("stretched",), sizes, crossings, room, bases, stretched=True, **named)

    def test_lanes_with_the_high_auto(self):
        self.check_stretched(("auto", "auto", 10), [], 100, [45, 45, 10])
        self.check_stretched(("auto", between(20, "auto"), "most", "least", upto(5)), [], 100, [40, 60, 0, 0, 0])
        self.check_stretched(("auto", "auto", 10), [asks(0, 1, 10, 20)], 100, [55, 35, 10])
        self.check_stretched(("auto", "auto", 10), [], 100, [42, 42, 10], gap=3)
        self.check_stretched((10, "most"), [], 100, [10, 0])

    def test_nothing_left(self):
        self.check_stretched(("auto", 100), [], 100, [0, 100])
        self.check_stretched(("auto", 110), [], 100, [0, 110])
        self.check_stretched(("auto", share(1)), [], 100, [0, 100])
        self.check_stretched(("auto", share(HALF)), [], 100, [50, 50])

    def test_without_a_length(self):
        for room in ("least", "most"):
            self.check_stretched(("auto", between(5, "auto")), [], room, [0, 5])

    def test_not_stretched(self):
        self.assertEqual(sized_lanes(("auto", 10), 0, [], 100), [0, 10])
        self.assertEqual(sized_lanes(("auto", 10), 0, [], 100, stretched=False), [0, 10])
        self.assertEqual(sized_lanes(("auto", 10), 0, [], 100, stretched=True), [90, 10])


class ReturnedTest(Case):

    def test_kinds(self):
        states = lane_states(["auto", (5, 2)], HALF, ((0, 2, (9, 9, 9, 9, 9)),), (201, 2))
        self.assertIsInstance(states, list)
        for step, bases, limits in states:
            self.assertEqual([type(step), type(bases), type(limits)], [tuple] * 3)
        self.check_numbers(states[0], (("begin",), (0, (5, 2)), (None, (5, 2))))
        self.check_numbers(states[2], (("across", 2, "minimum"), (6, (5, 2)), (None, (5, 2))))
        self.check_numbers(sized_lanes(["auto", (5, 2)], HALF, ((0, 2, (9, 9, 9, 9, 9)),), (201, 2)), [6, (5, 2)])

    def test_sized_lanes_are_the_last_bases(self):
        crossings = [asks(0, 1, 30, 80), asks(0, 2, 100, 100, 50)]
        for room in (0, 150, 300, "least", "most"):
            for stretched in (False, True):
                given = (("auto", share(1), 40), 10, crossings, room)
                self.assertEqual(sized_lanes(*given, stretched=stretched),
                                 list(lane_states(*given, stretched=stretched)[-1][1]))

    def test_no_lanes(self):
        for room in (0, 5, "least", "most"):
            self.assertEqual(lane_states((), 3, (), room, stretched=True),
                             [((word,), (), ()) for word in ("begin", "single", "ends", "grown", "shared", "stretched")])
            self.assertEqual(sized_lanes([], 3, [], room), [])

    def test_arguments_stay(self):
        sizes, crossings = ["auto", share(1)], [asks(0, 2, 50, 60), asks(0, 1, 5, 6)]
        first = sized_lanes(sizes, 1, crossings, 80)
        first.append(0)
        states = lane_states(sizes, 1, crossings, 80)
        states.clear()
        self.assertEqual((sizes, crossings), (["auto", share(1)], [asks(0, 2, 50, 60), asks(0, 1, 5, 6)]))
        self.assertEqual(sized_lanes(sizes, 1, crossings, 80), first[:-1])

    def test_by_name(self):
        named = {"sizes": ("auto",), "gap": 1, "crossings": [], "room": 9, "stretched": True}
        self.assertEqual(sized_lanes(**named), [9])
        self.assertEqual(lane_states(**named)[-1], (("stretched",), (9,), (0,)))
        for call in (sized_lanes, lane_states):
            with self.assertRaises(TypeError):
                call(("auto",), 1, [], 9, True)


class ErrorsTest(Case):

    def check_both(self, kind, fields, **named):
        for call in (lane_states, sized_lanes):
            self.check_raises(kind, fields, call, **{**self.right(), **named})

    def right(self):
        return {"sizes": ("auto", 5, share(1)), "gap": 1, "crossings": [asks(0, 2, 5, 5)], "room": 50}

    def check_each(self, kind, fields, with_value, allowed):
        for call in (lane_states, sized_lanes):
            self.check_place(kind, fields, lambda value: call(**{**self.right(), **with_value(value)}), allowed)

    def test_sizes_as_a_whole(self):
        for label, value in all_values().items():
            if not isinstance(value, (list, tuple)):
                self.check_both(NoSizes, {"index": -1}, sizes=value)
        self.check_both(NoSizes, {"index": -1}, sizes=(5,) * 61)
        self.check_both(NoSizes, {"index": -1}, sizes=[None] * 61)
        for sizes in ((5,) * 60, [5] * 60, (5, 5)):
            self.assertEqual(sized_lanes(sizes, 0, [], 9), list(sizes))

    def test_each_size(self):
        allowed = ("zero", "one", "huge", "half", "auto", "part", "share")
        for at in range(3):
            for kind in (list, tuple):
                self.check_each(NoSizes, {"index": at},
                                lambda value: {"sizes": kind([5] * at + [value] + [5] * (2 - at))}, allowed)
        self.check_both(NoSizes, {"index": 1}, sizes=("auto", ("names", ("a",)), None))
        self.check_both(NoSizes, {"index": 0}, sizes=(("fill", (5,)),))

    def test_the_gap(self):
        allowed = ("zero", "one", "huge", "half")
        self.check_each(NoNumber, {"part": "gap"}, lambda value: {"gap": value}, allowed)

    def test_crossings_as_a_whole(self):
        for label, value in all_values().items():
            if not isinstance(value, (list, tuple)):
                self.check_both(NoCrossings, {"index": -1}, crossings=value)
        self.check_both(NoCrossings, {"index": -1}, crossings=[asks(0, 1, 5, 5)] * 61)
        self.check_both(NoCrossings, {"index": -1}, crossings=(None,) * 61)
        for crossings in ([asks(0, 1, 5, 5)] * 60, (asks(0, 1, 5, 5),) * 60, [], ()):
            self.assertEqual(len(sized_lanes((5, 5), 0, crossings, 9)), 2)

    def test_each_crossing(self):
        right = asks(0, 2, 5, 5)
        for at in range(3):
            for kind in (list, tuple):
                self.check_each(NoCrossings, {"index": at},
                                lambda value: {"crossings": kind([right] * at + [value] + [right] * (2 - at))}, ())
        five = (1, 2, 3, 4, 5)
        for crossing in ((0, 1), (0, 1, five, 0), [0, 1, five], (-1, 1, five), (0, 0, five), (1, 1, five), (2, 1, five),
                         (0, 4, five), (3, 4, five), (0, HUGE, five), (-HUGE, 1, five), (0, 1, list(five)),
                         (0, 1, five[:4]), (0, 1, (*five, 6)), (0, 1, (1, 2, 3, 4, -1)), (True, 2, five),
                         (False, 1, five), (0, True, five), (0, (1, 2), five), (0, 1, (1, 2, (2, 4), 4, 5))):
            self.check_both(NoCrossings, {"index": 0}, crossings=[crossing])
            self.check_both(NoCrossings, {"index": 1}, crossings=[right, crossing, None])
        for crossing in ((0, 1, five), (2, 3, five), (0, 3, five), (1, 3, (0, 0, 0, 0, HALF))):
            self.assertEqual(len(lane_states((5, 5, 5), 0, [crossing], 9)[0]), 3)

    def test_what_is_asked(self):
        for at in range(5):
            def with_asked(value):
                return {"crossings": [(0, 1, (7,) * at + (value,) + (7,) * (4 - at))]}
            self.check_each(NoCrossings, {"index": 0}, with_asked, ("zero", "one", "huge", "half"))
        self.check_each(NoCrossings, {"index": 0}, lambda value: {"crossings": [(0, 1, value)]}, ())
        self.check_each(NoCrossings, {"index": 0}, lambda value: {"crossings": [(value, 3, (7,) * 5)]}, ("zero", "one"))
        self.check_each(NoCrossings, {"index": 0}, lambda value: {"crossings": [(0, value, (7,) * 5)]}, ("one",))

    def test_the_room(self):
        allowed = [label for label, value in all_values().items() if is_length(value)]
        self.check_each(NoNumber, {"part": "room"}, lambda value: {"room": value}, allowed)
        for room in ("Least", "least ", "auto", "", b"most", ("most",), None, -1):
            self.check_both(NoNumber, {"part": "room"}, room=room)

    def test_stretched(self):
        self.check_each(NoNumber, {"part": "stretched"}, lambda value: {"stretched": value}, ("true", "false"))

    def test_the_first_one(self):
        wrong = [("sizes", None, NoSizes, {"index": -1}), ("gap", -1, NoNumber, {"part": "gap"}),
                 ("crossings", 5, NoCrossings, {"index": -1}), ("room", "a", NoNumber, {"part": "room"}),
                 ("stretched", 0, NoNumber, {"part": "stretched"})]
        for one, other in itertools.combinations(wrong, 2):
            self.check_both(one[2], one[3], **{other[0]: other[1], one[0]: one[1]})
        for at, (_, _, kind, fields) in enumerate(wrong):
            self.check_both(kind, fields, **{name: value for name, value, _, _ in wrong[at:]})


if __name__ == "__main__":
    unittest.main()
