"""Points 31, 32, 2 and 1: why no day can end sooner."""

import unittest
from fractions import Fraction

from ballastway.errors import NoWay
from ballastway.loads import Cart
from ballastway.papers import alone_time, paper_of
from ballastway.plans import plan_of
from ballastway.watch import watched
from tests import oracle
from tests.given import busy_cart, busy_road, cart_fields, draws, road_fields, road_with

ROAD = road_with([("a", 10, 100, 5, 100), ("b", 10, 50, 5, 50)], [("b", 30)])
LIGHT = Cart("light", 2, [(1, 0, 40)])
HEAVY = Cart("heavy", 3, [(1, 0, 60)])
ROCK = Cart("rock", 3, [(1, 0, 101)])


def alone(road, cart):
    return min(oracle.day(road, [(cart, way, (0, 1))])[0][2] for way in oracle.fitting_ways(road, cart.wheels))


def bound(road, carts, bridge):
    near = []
    far = []
    for cart in carts:
        for way in oracle.fitting_ways(road, cart.wheels):
            places, length = oracle.near_ends(road, way)
            place = dict(places)[bridge.name]
            near.append(Fraction(place, cart.speed))
            far.append(Fraction(length - place - bridge.length, cart.speed))
    borne = sum(Fraction(wheel[2] * bridge.length, cart.speed * bridge.bears) for cart in carts for wheel in cart.wheels)
    return min(near) + borne + min(far)


def paper(road, carts):
    told = [("alone", place, alone(road, cart)) for place, cart in enumerate(carts)]
    rounds = dict(road.rounds)
    told.extend([("bridge", bridge.name, bound(road, carts, bridge))
                 for bridge in road.pieces[1::2] if bridge.name not in rounds])
    first = max(told, key=lambda each: each[2])
    return (first[0], first[1], oracle.pair(first[2]))


class Alone(unittest.TestCase):
    def test_by_hand(self):
        self.assertEqual(alone_time(ROAD, LIGHT), (310, 1))
        self.assertEqual(alone_time(ROAD, HEAVY), (640, 3))

    def test_the_least_of_several_ways(self):
        for length, shut, told in [(30, 0, 310), (5, 0, 305 + Fraction(5, 2)), (30, 240, 320), (30, 300, 320), (90, 240, 345)]:
            road = road_with([("a", 10, 100, 5, 100), ("b", 10, 50, 5, 50)], [("b", length)], [("b", 0, shut or 1)])
            self.assertEqual(oracle.value(alone_time(road, LIGHT)), told, (length, shut))

    def test_the_span_counts(self):
        road = road_with([("a", 10, 100, 5, 100)])
        self.assertEqual(alone_time(road, Cart("long", 2, [(9, 0, 1), (100, 0, 1), (57, 0, 1)])), (567, 2))

    def test_no_way(self):
        with self.assertRaises(NoWay) as raised:
            alone_time(ROAD, ROCK)
        self.assertIs(type(raised.exception), NoWay)

    def test_drawn(self):
        for draw in draws("alone", 60):
            road = busy_road(draw, draw.randint(1, 3), None, 4)
            cart = busy_cart(draw)
            if oracle.fitting_ways(road, cart.wheels):
                self.assertEqual(oracle.value(alone_time(road, cart)), alone(road, cart))


class Papers(unittest.TestCase):
    def test_alone(self):
        self.assertEqual(paper_of(ROAD, [HEAVY, LIGHT]), ("alone", 1, (310, 1)))

    def test_a_bridge(self):
        road = road_with([("a", 100, 100, 5, 100)])
        carts = [Cart("one", 10, [(1, 0, 100)]), Cart("two", 10, [(1, 50, 100)]), Cart("three", 5, [(1, 0, 50)])]
        # 20 to the near end, 10 and 10 and 10 on it, 20 from the far end; the slow one alone needs 100.
        self.assertEqual(paper_of(road, carts), ("alone", 2, (100, 1)))
        self.assertEqual(paper_of(road, carts[:2]), ("bridge", "a", (60, 1)))

    def test_each_least_time_by_itself(self):
        road = road_with([("a", 10, 5, 1, 5), ("b", 1000, 20, 1, 20), ("c", 10, 20, 20, 9)], [("a", 900), ("c", 600)])
        # The first fits a and not c, the second c and not a: 410 to b's near end, and 410 from its far end.
        carts = [Cart("one", 4, [(1, 0, 5), (15, 0, 5)]), Cart("two", 4, [(1, 0, 8)])] * 5
        self.assertEqual(oracle.fitting_ways(road, carts[0].wheels), [(True, True, False), (False, True, False)])
        self.assertEqual(oracle.fitting_ways(road, carts[1].wheels), [(False, True, True), (False, True, False)])
        self.assertEqual(paper_of(road, carts), ("bridge", "b", oracle.pair(Fraction(820, 4) + Fraction(90 * 1000, 4 * 20))))

    def test_alike_bounds(self):
        self.assertEqual(paper_of(ROAD, [LIGHT, LIGHT]), ("alone", 0, (310, 1)))
        self.assertEqual(paper_of(ROAD, [HEAVY, LIGHT, LIGHT]), ("alone", 1, (310, 1)))
        # A cart that weighs just what the bridge bears: its bound is its time alone.
        road = road_with([("a", 10, 40, 5, 100), ("b", 10, 40, 5, 100)])
        full = Cart("full", 2, [(1, 0, 40)])
        self.assertEqual(bound(road, [full], road.pieces[1]), alone(road, full))
        self.assertEqual(paper_of(road, [full]), ("alone", 0, (310, 1)))
        self.assertEqual(paper_of(road, [full, full]), ("bridge", "a", (315, 1)))
        other = road_with([("a", 10, 80, 5, 100), ("b", 10, 40, 5, 100)])
        self.assertEqual(paper_of(other, [full, full]), ("bridge", "b", (315, 1)))

    def test_bridges_with_a_round_tell_nothing(self):
        full = Cart("full", 2, [(1, 0, 40)])
        road = road_with([("a", 10, 40, 5, 100)], [("a", 900)])
        self.assertEqual(paper_of(road, [full] * 5), ("alone", 0, (205, 1)))

    def test_no_way(self):
        for carts in [[ROCK], [LIGHT, ROCK], [ROCK, LIGHT]]:
            with self.assertRaises(NoWay) as raised:
                paper_of(ROAD, carts)
            self.assertIs(type(raised.exception), NoWay)

    def test_drawn(self):
        kinds = []
        for draw in draws("papers", 250):
            road = busy_road(draw, draw.randint(1, 3), draw.randint(0, 1), 2)
            carts = [busy_cart(draw) for _ in range(draw.randint(1, 8))]
            if all(oracle.fitting_ways(road, cart.wheels) for cart in carts):
                told = paper_of(road, carts)
                self.assertIs(type(told), tuple)
                self.assertEqual(told, paper(road, carts))
                kinds.append(told[0])
        self.assertGreater(kinds.count("alone"), 10)
        self.assertGreater(kinds.count("bridge"), 10)

    def test_no_day_ends_sooner(self):
        for draw in draws("sooner", 80):
            road = busy_road(draw, draw.randint(1, 3), draw.randint(0, 1), 2)
            carts = [busy_cart(draw) for _ in range(draw.randint(1, 3))]
            if all(oracle.fitting_ways(road, cart.wheels) for cart in carts):
                least = oracle.value(paper_of(road, carts)[2])
                self.assertLessEqual(least, oracle.value(plan_of(road, carts)[0]))
                for _ in range(6):
                    sends = [(cart, draw.choice(oracle.fitting_ways(road, cart.wheels)),
                              oracle.pair(Fraction(draw.choice([0, 0, draw.randint(0, 90)]), 7)))
                             for cart in draw.sample(carts, len(carts))]
                    self.assertLessEqual(least, max(oracle.value(trip.ended) for trip in watched(road, sends)))

    def test_kept(self):
        carts = [LIGHT, HEAVY]
        before = ([cart_fields(cart) for cart in carts], road_fields(ROAD))
        self.assertEqual(paper_of(ROAD, carts), paper_of(ROAD, carts))
        self.assertEqual(([cart_fields(cart) for cart in carts], road_fields(ROAD)), before)
        self.assertEqual(carts, [LIGHT, HEAVY])


if __name__ == "__main__":
    unittest.main()
