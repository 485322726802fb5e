"""Points 18, 19, 17 and 1: the ways that wheels fit, and loads parted into carts."""

import unittest
from itertools import combinations

from ballastway.errors import Blocked
from ballastway.loads import Cart, fits, joined
from ballastway.parting import parted, ways_for
from ballastway.roads import bridges_of
from ballastway.ways import ways_of
from tests.given import cart_fields, drawn_cart, drawn_road, draws, road_fields, road_with

# Two wheels of 10 stand on each of these bridges at the most; of the second one not closer than 5.
ROAD = road_with([("a", 20, 20, 1, 20), ("aa", 20, 20, 5, 10), ("b", 1, 9, 1, 9)], [("b", 50), ("aa", 60)])


def over(road, way):
    return [bridge for bridge, led in zip(bridges_of(road), way) if led]


def all_cuts(wheels):
    """Every parting of wheels into runs, as lists of runs."""
    places = range(1, len(wheels))
    for number in range(len(wheels)):
        for cuts in combinations(places, number):
            ends = [0, *cuts, len(wheels)]
            yield [wheels[first:end] for first, end in zip(ends, ends[1:])]


def best_cut(road, wheels, way):
    """The parting that point 19 tells, found by going through every cut; None where there is none."""
    good = [cut for cut in all_cuts(wheels) if all(fits(bridge, run) for bridge in over(road, way) for run in cut)]
    if not good:
        return None
    return min(good, key=lambda cut: (len(cut), [-len(run) for run in cut]))


def first_fault(road, wheels, way):
    for place, wheel in enumerate(wheels):
        for bridge in over(road, way):
            if not fits(bridge, [wheel]):
                return (bridge.name, place)
    return None


class WaysFor(unittest.TestCase):
    def test_by_hand(self):
        told = {
            (9, 9): [(True, True, True), (True, True, False), (True, False, True), (True, False, False)],
            (10,): [(True, True, False), (True, False, False)],
            (11,): [(True, False, False)],
            (20,): [(True, False, False)],
            (21,): [],
        }
        for highs, ways in told.items():
            self.assertEqual(ways_for(ROAD, [(5, 0, high) for high in highs]), ways, highs)

    def test_drawn(self):
        for draw in draws("ways for", 150):
            road = drawn_road(draw, draw.randint(1, 4))
            wheels = drawn_cart(draw).wheels
            expected = [way for way in ways_of(road) if all(fits(bridge, wheels) for bridge in over(road, way))]
            self.assertEqual(ways_for(road, wheels), expected)

    def test_kept(self):
        wheels = [(5, 0, 9)]
        told = ways_for(ROAD, wheels)
        self.assertIs(type(told), list)
        told.clear()
        self.assertEqual(len(ways_for(ROAD, wheels)), 4)
        self.assertEqual(wheels, [(5, 0, 9)])


class Parted(unittest.TestCase):
    def runs(self, road, wheels, way):
        cart = Cart("timber", 7, wheels)
        carts = parted(road, cart, way)
        self.assertIs(type(carts), list)
        for each in carts:
            self.assertIs(type(each), Cart)
            self.assertEqual((each.name, each.speed), ("timber", 7))
        self.assertEqual(cart_fields(joined(carts)), cart_fields(cart))
        return [each.wheels for each in carts]

    def test_no_parting(self):
        wheels = [(5, 0, 9), (5, 1, 9), (90, 9, 9)]
        for way in ways_of(ROAD):
            self.assertEqual(self.runs(ROAD, wheels, way), [wheels])

    def test_round_every_bridge(self):
        road = road_with([("a", 20, 1, 1, 1)], [("a", 5)])
        wheels = [(5, 0, 900)] * 8
        self.assertEqual(self.runs(road, wheels, (False,)), [wheels])

    def test_the_first_carts_have_the_most_wheels(self):
        wheels = [(10, place, 10) for place in range(5)]
        self.assertEqual(self.runs(ROAD, wheels, (True, True, False)), [wheels])
        close = [(9, place, 10) for place in range(5)]
        self.assertEqual(self.runs(ROAD, close, (True, True, False)), [close[:2], close[2:4], close[4:]])

    def test_one_wheel_each(self):
        wheels = [(4, place, 10) for place in range(8)]
        self.assertEqual(self.runs(ROAD, wheels, (True, True, False)), [[wheel] for wheel in wheels])
        self.assertEqual(self.runs(ROAD, wheels, (True, False, False)), [wheels[:2], wheels[2:4], wheels[4:6], wheels[6:]])

    def test_every_cut(self):
        parted_loads = 0
        refused_loads = 0
        for draw in draws("cuts", 400):
            road = drawn_road(draw, draw.randint(1, 3), None, (30, 90))
            cart = drawn_cart(draw, "load", 6)
            for way in ways_of(road):
                expected = best_cut(road, cart.wheels, way)
                if expected is None:
                    refused_loads = refused_loads + 1
                    with self.assertRaises(Blocked) as raised:
                        parted(road, cart, way)
                    told = (raised.exception.bridge, raised.exception.wheel)
                    self.assertEqual(told, first_fault(road, cart.wheels, way))
                else:
                    parted_loads = parted_loads + (len(expected) > 1)
                    carts = parted(road, cart, way)
                    self.assertEqual([each.wheels for each in carts], expected)
                    self.assertEqual(cart_fields(joined(carts)), cart_fields(cart))
        self.assertGreater(parted_loads, 100)
        self.assertGreater(refused_loads, 100)

    def test_the_same_each_time(self):
        for draw in draws("again", 20):
            road = drawn_road(draw, 2, 1, (60, 120))
            cart = drawn_cart(draw, "load", 8, 20)
            before = (road_fields(road), cart_fields(cart))
            way = ways_of(road)[0]
            one = [each.wheels for each in parted(road, cart, way)]
            self.assertEqual([each.wheels for each in parted(road, cart, way)], one)
            self.assertEqual((road_fields(road), cart_fields(cart)), before)


class Refused(unittest.TestCase):
    def refused(self, highs, way, bridge, wheel):
        with self.assertRaises(Blocked) as raised:
            parted(ROAD, Cart("timber", 7, [(5, 0, high) for high in highs]), way)
        self.assertIs(type(raised.exception), Blocked)
        self.assertEqual((raised.exception.bridge, raised.exception.wheel), (bridge, wheel))

    def test_the_first_wheel_and_its_first_bridge(self):
        everywhere = (True, True, True)
        self.refused([21], everywhere, "a", 0)
        self.refused([20], everywhere, "aa", 0)
        self.refused([10], everywhere, "b", 0)
        self.refused([10, 21], everywhere, "b", 0)
        self.refused([9, 9, 11, 10], everywhere, "aa", 2)
        self.refused([9, 9, 10, 11], everywhere, "b", 2)
        self.refused([9] * 7 + [30], everywhere, "a", 7)

    def test_bridges_that_are_driven_round_forbid_nothing(self):
        self.refused([9, 9, 21, 10], (True, False, False), "a", 2)
        self.refused([9, 20, 21], (True, True, False), "aa", 1)
        self.refused([9, 20, 21], (True, False, True), "b", 1)
        self.assertEqual(len(parted(ROAD, Cart("t", 1, [(5, 0, 20)]), (True, False, False))), 1)

    def test_by_the_most_of_the_wide(self):
        road = road_with([("a", 5, 100, 5, 9)])
        with self.assertRaises(Blocked) as raised:
            parted(road, Cart("t", 1, [(1, 0, 9), (1, 0, 10)]), (True,))
        self.assertEqual((raised.exception.bridge, raised.exception.wheel), ("a", 1))


class Kept(unittest.TestCase):
    def test_wheels_of_parted_carts(self):
        for highs in [[9, 9, 9], [10, 10, 10, 10]]:
            wheels = [(4, 0, high) for high in highs]
            cart = Cart("timber", 7, wheels)
            told = parted(ROAD, cart, (True, True, False))
            expected = [list(each.wheels) for each in told]
            for each in told:
                self.assertIsNot(each, cart)
                self.assertIsNot(each.wheels, cart.wheels)
                each.wheels.append((1, 2, 3))
            told.clear()
            self.assertEqual(cart_fields(cart), ("timber", 7, wheels))
            again = parted(ROAD, cart, (True, True, False))
            self.assertEqual([each.wheels for each in again], expected)
            cart.wheels.clear()
            self.assertEqual([each.wheels for each in again], expected)


if __name__ == "__main__":
    unittest.main()
