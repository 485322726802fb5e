"""Points 29, 30 and 1: shapes of a day, the days of shapes, and their ends."""

import unittest
from itertools import permutations

from ballastway.errors import NoWay
from ballastway.loads import Cart
from ballastway.shapes import day_of_shape, end_of, shapes_of
from ballastway.watch import Trip
from tests import oracle
from tests.given import busy_cart, busy_road, cart_fields, drawn_cart, drawn_road, draws, road_fields, road_with

ROAD = road_with([("a", 10, 100, 5, 100), ("b", 10, 50, 5, 50)], [("b", 30)])
LIGHT = Cart("light", 2, [(1, 0, 40)])
HEAVY = Cart("heavy", 3, [(1, 0, 60)])
TOO_HEAVY = Cart("rock", 3, [(1, 0, 101)])
OVER = (True, True)
ROUND = (True, False)


class Shapes(unittest.TestCase):
    def test_one_cart(self):
        self.assertEqual(shapes_of(ROAD, [LIGHT]), [((0,), (OVER,)), ((0,), (ROUND,))])
        self.assertEqual(shapes_of(ROAD, [HEAVY]), [((0,), (ROUND,))])

    def test_two_carts(self):
        self.assertEqual(shapes_of(ROAD, [LIGHT, HEAVY]), [
            ((0, 1), (OVER, ROUND)), ((0, 1), (ROUND, ROUND)), ((1, 0), (ROUND, OVER)), ((1, 0), (ROUND, ROUND))])
        self.assertEqual(shapes_of(ROAD, [LIGHT, LIGHT])[:4], [
            ((0, 1), (OVER, OVER)), ((0, 1), (OVER, ROUND)), ((0, 1), (ROUND, OVER)), ((0, 1), (ROUND, ROUND))])

    def test_orders_rise(self):
        road = road_with([("a", 10, 100, 5, 100)])
        for number in range(1, 5):
            orders = [order for order, _ in shapes_of(road, [LIGHT] * number)]
            self.assertEqual(orders, list(permutations(range(number))))

    def test_drawn(self):
        refused = 0
        for draw in draws("shapes", 100):
            road = drawn_road(draw, draw.randint(1, 3), None, (40, 120))
            carts = [drawn_cart(draw, "load", 3) for _ in range(draw.randint(1, 3))]
            if all(oracle.fitting_ways(road, cart.wheels) for cart in carts):
                self.assertEqual(shapes_of(road, carts), oracle.shapes(road, carts))
            else:
                refused = refused + 1
                with self.assertRaises(NoWay):
                    shapes_of(road, carts)
        self.assertGreater(refused, 10)
        self.assertLess(refused, 90)

    def test_a_cart_without_a_way(self):
        for carts in [[TOO_HEAVY], [LIGHT, TOO_HEAVY], [TOO_HEAVY, LIGHT], [LIGHT, HEAVY, TOO_HEAVY]]:
            with self.assertRaises(NoWay) as raised:
                shapes_of(ROAD, carts)
            self.assertIs(type(raised.exception), NoWay)

    def test_kinds(self):
        told = shapes_of(ROAD, [LIGHT, HEAVY])
        self.assertIs(type(told), list)
        for shape in told:
            self.assertEqual([type(each) for each in (shape, *shape, *shape[1])], [tuple] * 5)


class Days(unittest.TestCase):
    def test_order_and_ways(self):
        trips = day_of_shape(ROAD, [LIGHT, HEAVY], ((1, 0), (ROUND, OVER)))
        self.assertEqual([trip.cart for trip in trips], [HEAVY, LIGHT])
        self.assertEqual([(trip.way, trip.start) for trip in trips], [(ROUND, (0, 1)), (OVER, (0, 1))])
        self.assertEqual([[crossing[0] for crossing in trip.crossings] for trip in trips], [["a"], ["a", "b"]])

    def test_drawn(self):
        for draw in draws("shape days", 30):
            road = busy_road(draw, draw.randint(1, 2), 1)
            carts = [busy_cart(draw) for _ in range(draw.randint(1, 3))]
            for shape in oracle.shapes(road, carts)[:12]:
                trips = day_of_shape(road, carts, shape)
                sends = [(carts[place], way, (0, 1)) for place, way in zip(*shape)]
                expected = oracle.day(road, sends)
                self.assertEqual([trip.crossings for trip in trips], [told[1] for told in expected])
                self.assertEqual([oracle.value(trip.ended) for trip in trips], [told[2] for told in expected])
                self.assertEqual(oracle.value(end_of(trips)), max(told[2] for told in expected))

    def test_end_of(self):
        def ending(*ends):
            return [Trip(LIGHT, OVER, (0, 1), [], end) for end in ends]
        self.assertEqual(end_of(ending((7, 3))), (7, 3))
        self.assertEqual(end_of(ending((7, 3), (5, 2), (2, 1))), (5, 2))
        self.assertEqual(end_of(ending((5, 2), (7, 3), (5, 2))), (5, 2))
        self.assertEqual(end_of(ending((9, 4), (7, 3), (200, 87))), (7, 3))

    def test_a_way_that_does_not_fit(self):
        with self.assertRaises(NoWay):
            day_of_shape(ROAD, [LIGHT, HEAVY], ((1, 0), (OVER, OVER)))


class Kept(unittest.TestCase):
    def test_lists(self):
        carts = [LIGHT, HEAVY]
        before = [cart_fields(cart) for cart in carts]
        road_before = road_fields(ROAD)
        told = shapes_of(ROAD, carts)
        expected = list(told)
        told.clear()
        self.assertEqual(shapes_of(ROAD, carts), expected)
        trips = day_of_shape(ROAD, carts, expected[0])
        again = day_of_shape(ROAD, carts, expected[0])
        self.assertIsNot(trips, again)
        trips[0].crossings.clear()
        trips.clear()
        end = end_of(again)
        self.assertEqual((len(again), len(again[0].crossings), end_of(again)), (2, 2, end))
        self.assertEqual(carts, [LIGHT, HEAVY])
        self.assertEqual([cart_fields(cart) for cart in carts], before)
        self.assertEqual(road_fields(ROAD), road_before)


if __name__ == "__main__":
    unittest.main()
