"""Points 30, 2, 3 and 1: the plan that ends soonest."""

import unittest

from ballastway.errors import NoWay
from ballastway.loads import Cart
from ballastway.plans import plan_of
from tests import oracle
from tests.given import busy_cart, busy_road, cart_fields, draws, road_with

ROAD = road_with([("a", 10, 100, 5, 100), ("b", 10, 50, 5, 50)], [("b", 30)])


def first_best(road, carts):
    """All shapes are gone through: the first whose day ends soonest, with its trips and its end."""
    best = None
    for shape in oracle.shapes(road, carts):
        trips = oracle.day(road, [(carts[place], way, (0, 1)) for place, way in zip(*shape)])
        end = max(told[2] for told in trips)
        if best is None or end < best[0]:
            best = (end, shape, trips)
    return best


class Plans(unittest.TestCase):
    def held(self, road, carts):
        end, shape, trips = first_best(road, carts)
        told = plan_of(road, carts)
        self.assertIs(type(told), tuple)
        self.assertEqual((told[0], told[1]), (oracle.pair(end), shape))
        self.assertIs(type(told[2]), list)
        self.assertEqual([(trip.crossings, oracle.value(trip.ended)) for trip in told[2]],
                         [(each[1], each[2]) for each in trips])
        for trip, place, way in zip(told[2], *shape):
            self.assertIs(trip.cart, carts[place])
            self.assertEqual((trip.way, trip.start), (way, (0, 1)))
        return told

    def test_one_cart(self):
        told = self.held(ROAD, [Cart("light", 2, [(1, 0, 40)])])
        self.assertEqual((told[0], told[1]), ((310, 1), ((0,), ((True, True),))))

    def test_the_slow_one_first(self):
        # Both come to the bridge together; whoever waits loses the time that the other is on it.
        road = road_with([("a", 100, 100, 5, 100)], (), (), [200, 600])
        slow = Cart("slow", 1, [(1, 0, 60)])
        also = Cart("also", 1, [(1, 0, 60), (50, 0, 30)])
        self.held(road, [slow, also])
        self.held(road, [also, slow])

    def test_round_where_that_is_sooner(self):
        road = road_with([("a", 100, 100, 5, 100)], [("a", 110)])
        carts = [Cart("one", 1, [(1, 0, 60)]), Cart("two", 1, [(1, 0, 60)])]
        told = self.held(road, carts)
        self.assertEqual(told[1], ((0, 1), ((True,), (False,))))
        self.assertEqual(told[0], (510, 1))

    def test_of_alike_ends_the_first(self):
        carts = [Cart("one", 2, [(1, 0, 20)]), Cart("two", 2, [(1, 0, 20)]), Cart("three", 2, [(1, 0, 10)])]
        told = self.held(ROAD, carts)
        self.assertEqual(told[1], ((0, 1, 2), ((True, True),) * 3))
        road = road_with([("a", 10, 100, 5, 100)], [("a", 10)])
        self.assertEqual(self.held(road, carts[:2])[1], ((0, 1), ((True,), (True,))))

    def test_drawn_of_one_round(self):
        others = 0
        for draw in draws("plans", 60):
            road = busy_road(draw, draw.randint(1, 2), draw.randint(0, 1))
            carts = [busy_cart(draw) for _ in range(draw.randint(1, 3))]
            if all(oracle.fitting_ways(road, cart.wheels) for cart in carts):
                told = self.held(road, carts)
                others = others + (told[1] != oracle.shapes(road, carts)[0])
        self.assertGreater(others, 3)

    def test_drawn_of_two_rounds(self):
        for draw in draws("two rounds", 30):
            road = busy_road(draw, draw.randint(2, 3), 2)
            carts = [busy_cart(draw) for _ in range(draw.randint(1, 2))]
            if all(oracle.fitting_ways(road, cart.wheels) for cart in carts):
                self.held(road, carts)

    def test_the_greatest_that_is_promised(self):
        bridges = [(name, 50, 2000, 20, 2000) for name in ["a", "b", "c", "d", "e", "f"]]
        wheels = [(20, 50, 150 + place) for place in range(8)]
        road = road_with(bridges, [("c", 300)], [("a", 20, 40), ("e", 100, 130)])
        told = plan_of(road, [Cart("one", 7, wheels), Cart("two", 11, wheels), Cart("three", 12, wheels)])
        self.assertEqual(len(told[2]), 3)
        road = road_with(bridges, [("c", 300), ("d", 90)])
        self.assertEqual(len(plan_of(road, [Cart("one", 7, wheels), Cart("two", 11, wheels)])[2]), 2)

    def test_no_way(self):
        rock = Cart("rock", 3, [(1, 0, 101)])
        for carts in [[rock], [Cart("light", 2, [(1, 0, 40)]), rock]]:
            with self.assertRaises(NoWay) as raised:
                plan_of(ROAD, carts)
            self.assertIs(type(raised.exception), NoWay)


class Kept(unittest.TestCase):
    def test_lists(self):
        carts = [Cart("light", 2, [(1, 0, 40)]), Cart("heavy", 3, [(1, 0, 60)])]
        before = [cart_fields(cart) for cart in carts]
        one = plan_of(ROAD, carts)
        again = plan_of(ROAD, carts)
        expected = [(trip.crossings, trip.ended) for trip in again[2]]
        self.assertIsNot(one[2], again[2])
        one[2][0].crossings[0][3].clear()
        one[2][0].crossings.clear()
        one[2].clear()
        self.assertEqual([(trip.crossings, trip.ended) for trip in again[2]], expected)
        self.assertEqual([(trip.crossings, trip.ended) for trip in plan_of(ROAD, carts)[2]], expected)
        self.assertEqual([cart_fields(cart) for cart in carts], before)


if __name__ == "__main__":
    unittest.main()
