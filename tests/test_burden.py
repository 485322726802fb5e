"""Points 21, 22, 23 and 1: sums on a bridge, the worst moments, and verdicts."""

import unittest
from fractions import Fraction

from ballastway.burden import moments_of, on_bridge, verdict, worst, worst_low
from tests import oracle
from tests.given import drawn_road, drawn_wheels, draws, road_fields, road_with

ROAD = road_with([("a", 10, 100, 5, 50), ("aa", 20, 100, 5, 50), ("b", 5, 100, 5, 50)])
# On a: from 0 to 10, from 4 to 14; from 7/2 to 6.
ONE = ("a", (0, 1), 1, [(9, 1, 20), (4, 30, 40)])
OTHER = ("a", (7, 2), 4, [(9, 5, 6)])
ELSEWHERE = ("aa", (0, 1), 1, [(9, 500, 600)])


def bearing(bears):
    return road_with([("a", 10, bears, 5, 50), ("aa", 20, 1, 5, 50)])


def drawn_crossings(draw, road):
    names = [piece.name for piece in road.pieces[1::2]]
    told = []
    for _ in range(draw.randint(0, 5)):
        entry = (draw.randint(0, 20), 1) if draw.random() < 0.5 else oracle.pair(Fraction(draw.randint(0, 90), 7))
        told.append((draw.choice(names), entry, draw.randint(1, 12), drawn_wheels(draw, 4)))
    return told


class OnBridge(unittest.TestCase):
    def test_at_ahead_of_and_behind_each_moment(self):
        crossings = [ONE, ELSEWHERE, OTHER]
        for moment, told in [((-1, 1), (0, 0)), ((-1, 1000), (0, 0)), ((0, 1), (1, 20)), ((1, 1000), (1, 20)),
                             ((3499, 1000), (1, 20)), ((7, 2), (6, 26)), ((3999, 1000), (6, 26)), ((4, 1), (36, 66)),
                             ((5999, 1000), (36, 66)), ((6, 1), (31, 60)), ((9999, 1000), (31, 60)), ((10, 1), (30, 40)),
                             ((13999, 1000), (30, 40)), ((14, 1), (0, 0)), ((10 ** 60, 1), (0, 0))]:
            for order in [crossings, crossings[::-1]]:
                self.assertEqual(on_bridge(ROAD, order, "a", moment), told)

    def test_other_bridges_are_passed_over(self):
        crossings = [ONE, ELSEWHERE, OTHER]
        self.assertEqual(on_bridge(ROAD, crossings, "aa", (19, 1)), (500, 600))
        self.assertEqual(on_bridge(ROAD, crossings, "aa", (20, 1)), (0, 0))
        self.assertEqual(on_bridge(ROAD, crossings, "b", (0, 1)), (0, 0))
        self.assertEqual(on_bridge(ROAD, [], "b", (0, 1)), (0, 0))

    def test_the_same_crossing_twice(self):
        self.assertEqual(on_bridge(ROAD, [ONE, ONE], "a", (5, 1)), (62, 120))

    def test_drawn(self):
        for draw in draws("burden", 150):
            road = drawn_road(draw)
            crossings = drawn_crossings(draw, road)
            for name in [piece.name for piece in road.pieces[1::2]]:
                stays = oracle.all_stays(road, crossings, name)
                for moment in oracle.with_between([each for stay in stays for each in stay[:2]]):
                    expected = oracle.sums(road, crossings, name, moment)
                    self.assertEqual(on_bridge(road, crossings, name, oracle.pair(moment)), expected)


class Moments(unittest.TestCase):
    def test_each_once_from_the_least_on(self):
        self.assertEqual(moments_of(ROAD, [ONE, ELSEWHERE, OTHER], "a"), [(0, 1), (7, 2), (4, 1)])
        self.assertEqual(moments_of(ROAD, [OTHER, ONE, ONE, OTHER], "a"), [(0, 1), (7, 2), (4, 1)])
        self.assertEqual(moments_of(ROAD, [("a", (2, 1), 2, [(1, 0, 0)] * 5), ("a", (1, 2), 4, [(6, 0, 0)] * 2)], "a"),
                         [(1, 2), (2, 1), (5, 2), (3, 1), (7, 2), (4, 1)])

    def test_none(self):
        self.assertEqual(moments_of(ROAD, [], "a"), [])
        self.assertEqual(moments_of(ROAD, [ONE, OTHER], "b"), [])

    def test_drawn(self):
        for draw in draws("moments", 100):
            road = drawn_road(draw)
            crossings = drawn_crossings(draw, road)
            for name in [piece.name for piece in road.pieces[1::2]]:
                ons = sorted({stay[0] for stay in oracle.all_stays(road, crossings, name)})
                self.assertEqual(moments_of(road, crossings, name), [oracle.pair(on) for on in ons])


class Worst(unittest.TestCase):
    def test_by_hand(self):
        self.assertEqual(worst(ROAD, [ONE, OTHER, ELSEWHERE], "a"), ((4, 1), 36, 66))
        self.assertEqual(worst_low(ROAD, [ONE, OTHER, ELSEWHERE], "a"), ((4, 1), 36, 66))
        self.assertEqual(worst(ROAD, [ONE, OTHER, ELSEWHERE], "aa"), ((0, 1), 500, 600))

    def test_none(self):
        for ask in [worst, worst_low]:
            self.assertIsNone(ask(ROAD, [], "a"))
            self.assertIsNone(ask(ROAD, [ONE, OTHER], "b"))

    def test_the_two_at_other_moments(self):
        crossings = [("a", (0, 1), 10, [(1, 0, 9)]), ("a", (5, 1), 10, [(1, 4, 5)]), ("a", (9, 1), 10, [(1, 3, 9)])]
        for order in [crossings, crossings[::-1]]:
            self.assertEqual(worst(ROAD, order, "a"), ((0, 1), 0, 9))
            self.assertEqual(worst_low(ROAD, order, "a"), ((5, 1), 4, 5))

    def test_the_first_of_several_alike(self):
        crossings = [("a", (moment, 1), 10, [(1, 3, 9)]) for moment in [6, 4, 2, 8]]
        self.assertEqual(worst(ROAD, crossings, "a"), ((2, 1), 3, 9))
        self.assertEqual(worst_low(ROAD, crossings, "a"), ((2, 1), 3, 9))
        # A wheel of no weight comes on later: the sums are alike then, and the first moment is told.
        more = crossings + [("a", (5, 2), 10, [(1, 0, 0)])]
        self.assertEqual(worst(ROAD, more, "a"), ((2, 1), 3, 9))

    def test_the_first_of_alike_highs_with_other_lows(self):
        crossings = [("a", (2, 1), 10, [(1, 3, 9)]), ("a", (4, 1), 10, [(1, 8, 9)])]
        self.assertEqual(worst(ROAD, crossings, "a"), ((2, 1), 3, 9))
        self.assertEqual(worst_low(ROAD, crossings, "a"), ((4, 1), 8, 9))
        crossings = [("a", (2, 1), 10, [(1, 3, 5)]), ("a", (4, 1), 10, [(1, 3, 9)])]
        self.assertEqual(worst_low(ROAD, crossings, "a"), ((2, 1), 3, 5))

    def test_no_weight(self):
        crossings = [("a", (4, 1), 10, [(1, 0, 0)]), ("a", (2, 1), 10, [(1, 0, 0)])]
        self.assertEqual(worst(ROAD, crossings, "a"), ((2, 1), 0, 0))
        self.assertEqual(worst_low(ROAD, crossings, "a"), ((2, 1), 0, 0))

    def test_one_off_as_the_other_comes_on(self):
        crossings = [("a", (0, 1), 10, [(1, 2, 9)]), ("a", (1, 1), 10, [(1, 3, 9)])]
        self.assertEqual(worst(ROAD, crossings, "a"), ((0, 1), 2, 9))
        self.assertEqual(worst_low(ROAD, crossings, "a"), ((1, 1), 3, 9))

    def test_no_moment_is_worse(self):
        for draw in draws("worst", 150):
            road = drawn_road(draw)
            crossings = drawn_crossings(draw, road)
            for name in {crossing[0] for crossing in crossings}:
                stays = oracle.all_stays(road, crossings, name)
                moments = oracle.with_between([each for stay in stays for each in stay[:2]])
                for ask, spot in [(worst_low, 0), (worst, 1)]:
                    greatest = max(oracle.sums(road, crossings, name, moment)[spot] for moment in moments)
                    ons = sorted(stay[0] for stay in stays)
                    first = [on for on in ons if oracle.sums(road, crossings, name, on)[spot] == greatest][0]
                    expected = (oracle.pair(first), *oracle.sums(road, crossings, name, first))
                    self.assertEqual(ask(road, crossings, name), expected)


class Verdict(unittest.TestCase):
    def test_at_the_bounds(self):
        # The sums at 4 are 36 and 66; the lows alone are greatest there too.
        for bears, told in [(66, "safe"), (67, "safe"), (65, "may"), (36, "may"), (37, "may"), (35, "over"), (1, "over")]:
            self.assertEqual(verdict(bearing(bears), [ONE, OTHER, ELSEWHERE], "a"), (told, (4, 1)))

    def test_the_moment_shown(self):
        crossings = [("a", (2, 1), 10, [(1, 3, 9)]), ("a", (4, 1), 10, [(1, 8, 8)])]
        self.assertEqual(verdict(bearing(9), crossings, "a"), ("safe", (2, 1)))
        self.assertEqual(verdict(bearing(8), crossings, "a"), ("may", (2, 1)))
        self.assertEqual(verdict(bearing(7), crossings, "a"), ("over", (4, 1)))
        self.assertEqual(verdict(bearing(2), crossings, "a"), ("over", (4, 1)))

    def test_none(self):
        self.assertEqual(verdict(ROAD, [], "a"), ("safe", None))
        self.assertEqual(verdict(ROAD, [ONE, ELSEWHERE], "b"), ("safe", None))

    def test_the_bridge_itself_is_asked(self):
        self.assertEqual(verdict(bearing(66), [ELSEWHERE, ONE], "aa"), ("over", (0, 1)))


class Kept(unittest.TestCase):
    def test_kinds_and_lists(self):
        crossings = [ONE, OTHER]
        before = road_fields(road_with([("a", 10, 100, 5, 50), ("aa", 20, 100, 5, 50), ("b", 5, 100, 5, 50)]))
        told = moments_of(ROAD, crossings, "a")
        self.assertIs(type(told), list)
        told.clear()
        self.assertEqual(len(moments_of(ROAD, crossings, "a")), 3)
        for answer in [on_bridge(ROAD, crossings, "a", (0, 1)), worst(ROAD, crossings, "a"),
                       worst_low(ROAD, crossings, "a"), verdict(ROAD, crossings, "a")]:
            self.assertIs(type(answer), tuple)
        self.assertEqual(crossings, [("a", (0, 1), 1, [(9, 1, 20), (4, 30, 40)]), ("a", (7, 2), 4, [(9, 5, 6)])])
        self.assertEqual(road_fields(ROAD), before)


if __name__ == "__main__":
    unittest.main()
