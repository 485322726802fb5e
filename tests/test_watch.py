"""Points 24 to 28, 2 and 1: what may enter and when, trips, and watched days."""

import unittest
from fractions import Fraction

from ballastway.burden import verdict
from ballastway.errors import NoWay
from ballastway.loads import Cart
from ballastway.watch import Trip, entry_at, may_enter, trip_of, watched
from ballastway.ways import ways_of
from tests import oracle
from tests.given import busy_cart, busy_road, cart_fields, drawn_road, drawn_wheels, draws, road_fields, road_with

# A bridge of length 10 that bears 100: at speed 1 a wheel is on it for ten minutes.
PLAIN = road_with([("a", 10, 100, 5, 100)])
HALF = [(1, 0, 50)]
MORE = [(1, 0, 51)]


def with_shuts(*hours):
    return road_with([("a", 10, 100, 5, 100)], (), [("a", begin, end) for begin, end in hours])


def entered(road, crossings, wheels, coming, speed=1):
    return entry_at(road, crossings, "a", speed, wheels, coming)


class MayEnter(unittest.TestCase):
    def test_the_bound_and_one_beyond_it(self):
        there = [("a", (0, 1), 1, HALF)]
        for moment in [(0, 1), (5, 1), (19, 2)]:
            self.assertIs(may_enter(PLAIN, there, ("a", moment, 1, HALF)), True)
            self.assertIs(may_enter(PLAIN, there, ("a", moment, 1, MORE)), False)
        self.assertIs(may_enter(PLAIN, there, ("a", (10, 1), 1, MORE)), True)
        self.assertIs(may_enter(PLAIN, [("a", (10, 1), 1, HALF)], ("a", (0, 1), 1, MORE)), True)
        self.assertIs(may_enter(PLAIN, [("a", (999, 100), 1, HALF)], ("a", (0, 1), 1, MORE)), False)

    def test_the_highs_count(self):
        self.assertIs(may_enter(PLAIN, [("a", (0, 1), 1, [(1, 0, 100)])], ("a", (0, 1), 1, [(1, 0, 1)])), False)
        self.assertIs(may_enter(PLAIN, [("a", (0, 1), 1, [(1, 100, 100)])], ("a", (0, 1), 1, [(1, 0, 0)])), True)

    def test_at_no_moment_also_where_it_is_not_on(self):
        broken = [("a", (0, 1), 1, MORE), ("a", (0, 1), 1, MORE)]
        self.assertIs(may_enter(PLAIN, broken, ("a", (90, 1), 1, HALF)), False)

    def test_one_that_breaks_it_alone(self):
        self.assertIs(may_enter(PLAIN, [], ("a", (0, 1), 1, [(1, 0, 60), (9, 0, 41)])), False)
        self.assertIs(may_enter(PLAIN, [], ("a", (0, 1), 1, [(1, 0, 60), (10, 0, 41)])), True)

    def test_other_bridges_are_passed_over(self):
        road = road_with([("a", 10, 100, 5, 100), ("aa", 10, 100, 5, 100)], (), [("aa", 0, 50)])
        there = [("aa", (0, 1), 1, MORE), ("aa", (0, 1), 1, MORE)]
        self.assertIs(may_enter(road, there, ("a", (0, 1), 1, MORE)), True)

    def test_shut_hours_begin_or_end_just_then(self):
        road = with_shuts((20, 30))
        for entry, told in [((10, 1), True), ((1001, 100), False), ((20, 1), False), ((29, 1), False),
                            ((2999, 100), False), ((30, 1), True), ((0, 1), True)]:
            self.assertIs(may_enter(road, [], ("a", entry, 1, HALF)), told, entry)

    def test_each_wheel_is_asked(self):
        road = with_shuts((20, 30))
        two = [(1, 0, 1), (25, 0, 1)]
        # The second one is on from 25 later on; between the two wheels the bridge may be shut.
        for entry, told in [((0, 1), False), ((5, 1), True), ((6, 1), True), ((10, 1), True), ((1001, 100), False),
                            ((499, 100), False)]:
            self.assertIs(may_enter(road, [], ("a", entry, 1, two)), told, entry)

    def test_an_hour_within_the_stay(self):
        self.assertIs(may_enter(with_shuts((3, 4)), [], ("a", (0, 1), 1, HALF)), False)

    def test_crossings_ahead_are_not_asked_for_shut_hours(self):
        self.assertIs(may_enter(with_shuts((3, 4)), [("a", (0, 1), 1, HALF)], ("a", (4, 1), 1, HALF)), True)

    def test_drawn(self):
        answers = []
        for draw in draws("may", 300):
            road = drawn_road(draw, 1, 0, (60, 120))
            name = road.pieces[1].name
            crossings = [(name, (draw.randint(0, 60), 1), draw.randint(1, 6), drawn_wheels(draw, 3, 30))
                         for _ in range(draw.randint(0, 3))]
            asked = (name, oracle.pair(Fraction(draw.randint(0, 120), 2)), draw.randint(1, 6), drawn_wheels(draw, 3, 30))
            answers.append(may_enter(road, crossings, asked))
            self.assertIs(answers[-1], oracle.allowed(road, crossings, asked))
        self.assertGreater(answers.count(True), 60)
        self.assertGreater(answers.count(False), 60)


class EntryAt(unittest.TestCase):
    def test_at_once(self):
        for coming in [(0, 1), (1, 3), (70, 1)]:
            self.assertEqual(entered(PLAIN, [], HALF, coming), coming)
            self.assertEqual(entered(PLAIN, [("a", (0, 1), 1, HALF)], HALF, coming), coming)

    def test_behind_another_one(self):
        there = [("a", (0, 1), 1, HALF)]
        for coming, told in [((0, 1), (10, 1)), ((5, 1), (10, 1)), ((10, 1), (10, 1)), ((21, 2), (21, 2))]:
            self.assertEqual(entered(PLAIN, there, MORE, coming), told)

    def test_a_gap_just_long_enough(self):
        there = [("a", (0, 1), 1, MORE), ("a", (20, 1), 1, MORE)]
        self.assertEqual(entered(PLAIN, there, HALF, (3, 1)), (10, 1))
        short = [("a", (0, 1), 1, MORE), ("a", (1999, 100), 1, MORE)]
        self.assertEqual(entered(PLAIN, short, HALF, (3, 1)), (2999, 100))

    def test_a_gap_ahead(self):
        there = [("a", (10, 1), 1, MORE)]
        self.assertEqual(entered(PLAIN, there, HALF, (0, 1)), (0, 1))
        self.assertEqual(entered(PLAIN, there, HALF, (1, 100)), (20, 1))

    def test_shut_hours_that_touch(self):
        road = with_shuts((20, 30), (5, 15), (15, 20))
        for coming, told in [((0, 1), (30, 1)), ((7, 1), (30, 1)), ((30, 1), (30, 1)), ((31, 1), (31, 1))]:
            self.assertEqual(entered(road, [], HALF, coming), told)
        apart = with_shuts((20, 30), (0, 10))
        self.assertEqual(entered(apart, [], HALF, (0, 1)), (10, 1))
        self.assertEqual(entered(with_shuts((20, 30), (0, 11)), [], HALF, (0, 1)), (30, 1))

    def test_just_when_a_wheel_is_off(self):
        road = with_shuts((20, 30))
        self.assertEqual(entered(road, [], HALF, (10, 1)), (10, 1))
        self.assertEqual(entered(road, [], HALF, (1001, 100)), (30, 1))
        self.assertEqual(entered(road, [], [(1, 0, 1), (5, 0, 1)], (5, 1)), (5, 1))
        self.assertEqual(entered(road, [], [(1, 0, 1), (5, 0, 1)], (501, 100)), (30, 1))
        self.assertEqual(entered(road, [], [(1, 0, 1), (25, 0, 1)], (1, 1)), (5, 1))

    def test_a_shut_hour_and_a_crossing_together(self):
        road = with_shuts((10, 20))
        self.assertEqual(entered(road, [("a", (20, 1), 1, MORE)], HALF, (1, 1)), (30, 1))
        self.assertEqual(entered(road, [("a", (30, 1), 1, MORE)], HALF, (1, 1)), (20, 1))

    def test_wheels_between_the_others(self):
        # Two wheels twenty apart leave the bridge empty for ten minutes: a third one just fits between.
        there = [("a", (0, 1), 1, [(1, 0, 60), (20, 0, 60)])]
        self.assertEqual(entered(PLAIN, there, HALF, (0, 1)), (10, 1))
        self.assertEqual(entered(PLAIN, there, [(1, 0, 50), (20, 0, 50)], (0, 1)), (10, 1))
        self.assertEqual(entered(PLAIN, there, [(1, 0, 50), (1, 0, 50)], (0, 1)), (30, 1))

    def test_no_moment_ahead_of_it(self):
        later = 0
        for draw in draws("entries", 150):
            road = drawn_road(draw, 1, 0, (60, 120))
            name = road.pieces[1].name
            crossings = []
            for _ in range(draw.randint(0, 4)):
                wheels = drawn_wheels(draw, 3, 30)
                speed = draw.randint(1, 6)
                if oracle.heaviest(wheels, road.pieces[1].length) <= road.pieces[1].bears:
                    coming = Fraction(draw.randint(0, 60), draw.randint(1, 3))
                    entry = oracle.least_entry(road, crossings, name, speed, wheels, coming)
                    crossings.append((name, oracle.pair(entry), speed, wheels))
            wheels = drawn_wheels(draw, 3, 30)
            if oracle.heaviest(wheels, road.pieces[1].length) <= road.pieces[1].bears:
                speed = draw.randint(1, 12)
                coming = Fraction(draw.randint(0, 60), draw.randint(1, 3))
                told = entry_at(road, crossings, name, speed, wheels, oracle.pair(coming))
                later = later + (oracle.value(told) > coming)
                self.assertIs(may_enter(road, crossings, (name, told, speed, wheels)), True)
                self.assertEqual(oracle.value(told), oracle.least_entry(road, crossings, name, speed, wheels, coming))
                for moment in oracle.entries_that_matter(road, crossings, name, speed, wheels, coming):
                    if moment < oracle.value(told):
                        self.assertIs(may_enter(road, crossings, (name, oracle.pair(moment), speed, wheels)), False)
        self.assertGreater(later, 40)


class Trips(unittest.TestCase):
    def test_fields(self):
        cart = Cart("a", 2, HALF)
        crossings = [("a", (1, 2), 2, [(1, 0, 50)])]
        trip = Trip(cart, (True,), (3, 2), crossings, (9, 1))
        self.assertIs(trip.cart, cart)
        self.assertEqual((trip.way, trip.start, trip.crossings, trip.ended), ((True,), (3, 2), crossings, (9, 1)))

    def test_over_one_bridge(self):
        cart = Cart("a", 4, [(9, 0, 50), (6, 0, 50)])
        trip = trip_of(PLAIN, [], cart, (True,), (1, 2))
        # 200 to the bridge, 210 and the span of 6 behind its near end.
        self.assertEqual(trip.crossings, [("a", (101, 2), 4, [(9, 0, 50), (6, 0, 50)])])
        self.assertEqual((trip.way, trip.start, trip.ended), ((True,), (1, 2), (209, 2)))
        self.assertIs(trip.cart, cart)

    def test_over_none(self):
        road = road_with([("a", 10, 1, 1, 1)], [("a", 50)], [("a", 0, 10000)])
        trip = trip_of(road, [], Cart("a", 9, [(3, 0, 500), (9, 0, 1)]), (False,), (1, 1))
        self.assertEqual((trip.crossings, trip.ended), ([], oracle.pair(1 + Fraction(459, 9))))

    def test_waiting_at_each_bridge(self):
        road = road_with([("a", 10, 100, 5, 100), ("b", 20, 100, 5, 100)], [("b", 100)], [("a", 20, 60), ("b", 80, 90)],
                         [200, 300, 250])
        cart = Cart("t", 10, [(3, 0, 50)])
        trip = trip_of(road, [], cart, (True, True), (0, 1))
        # At a's near end at 20, on at 60; b's near end is 310 farther: at 91.
        self.assertEqual([crossing[:2] for crossing in trip.crossings], [("a", (60, 1)), ("b", (91, 1))])
        self.assertEqual(trip.ended, (118, 1))
        there = [("a", (60, 1), 1, MORE)]
        trip = trip_of(road, there, cart, (True, True), (0, 1))
        self.assertEqual([crossing[:2] for crossing in trip.crossings], [("a", (70, 1)), ("b", (101, 1))])
        trip = trip_of(road, there, cart, (True, False), (0, 1))
        self.assertEqual([crossing[:2] for crossing in trip.crossings], [("a", (70, 1))])
        self.assertEqual(trip.ended, (136, 1))

    def test_round_the_first(self):
        road = road_with([("a", 10, 1, 5, 1), ("b", 20, 100, 5, 100)], [("a", 90)], (), [200, 300, 250])
        trip = trip_of(road, [], Cart("t", 10, [(3, 0, 50), (5, 1, 1)]), (False, True), (0, 1))
        self.assertEqual(trip.crossings, [("b", (59, 1), 10, [(3, 0, 50), (5, 1, 1)])])
        self.assertEqual(trip.ended, oracle.pair(59 + Fraction(275, 10)))

    def test_no_way(self):
        road = road_with([("a", 10, 100, 5, 60), ("b", 20, 40, 5, 100)], [("b", 100)])
        for wheels, way in [([(1, 0, 61)], (True, False)), ([(1, 0, 41)], (True, True)),
                            ([(1, 0, 40), (1, 0, 40)], (True, False))]:
            for crossings in [[], [("a", (0, 1), 1, HALF)]]:
                with self.assertRaises(NoWay) as raised:
                    trip_of(road, crossings, Cart("t", 1, wheels), way, (0, 1))
                self.assertIs(type(raised.exception), NoWay)
        self.assertEqual(len(trip_of(road, [], Cart("t", 1, [(1, 0, 60)]), (True, False), (0, 1)).crossings), 1)


class Watched(unittest.TestCase):
    def test_no_sends(self):
        self.assertEqual(watched(PLAIN, []), [])

    def test_one_behind_the_other(self):
        one = Cart("one", 2, [(1, 0, 60)])
        two = Cart("two", 1, [(1, 0, 60)])
        trips = watched(PLAIN, [(two, (True,), (0, 1)), (one, (True,), (99, 1)), (one, (True,), (0, 1))])
        # The slow one is on from 200 to 210; the second comes at 199 and would be on until 204.
        self.assertEqual([trip.crossings[0][1] for trip in trips], [(200, 1), (210, 1), (100, 1)])
        self.assertEqual([trip.ended for trip in trips], [(410, 1), (315, 1), (205, 1)])
        self.assertEqual([trip.cart.name for trip in trips], ["two", "one", "one"])

    def test_carts_that_pass_one_another(self):
        slow = Cart("slow", 1, [(1, 0, 60)])
        fast = Cart("fast", 12, [(1, 0, 60)])
        trips = watched(PLAIN, [(slow, (True,), (0, 1)), (fast, (True,), (50, 1))])
        self.assertEqual([trip.crossings[0][1] for trip in trips], [(200, 1), (200, 3)])

    def test_no_way_ahead_of_all_else(self):
        fit = (Cart("fit", 1, HALF), (True,), (0, 1))
        unfit = (Cart("unfit", 1, [(1, 0, 101)]), (True,), (0, 1))
        for sends in [[unfit], [fit, unfit], [unfit, fit], [fit, fit, unfit]]:
            with self.assertRaises(NoWay) as raised:
                watched(PLAIN, sends)
            self.assertIs(type(raised.exception), NoWay)

    def test_drawn_days(self):
        waited = 0
        for draw in draws("days", 60):
            road = busy_road(draw, draw.randint(1, 3), None)
            sends = []
            for _ in range(draw.randint(1, 4)):
                cart = busy_cart(draw, "load", 3)
                ways = oracle.fitting_ways(road, cart.wheels)
                if ways:
                    sends.append((cart, draw.choice(ways), oracle.pair(Fraction(draw.randint(0, 60), 3))))
            trips = watched(road, sends)
            expected = oracle.day(road, sends)
            self.assertEqual(len(trips), len(sends))
            for trip, send, told in zip(trips, sends, expected):
                self.assertIs(type(trip), Trip)
                self.assertIs(trip.cart, send[0])
                self.assertEqual((trip.way, trip.start), send[1:])
                self.assertEqual((trip.crossings, trip.ended), (told[1], oracle.pair(told[2])))
                waited = waited + sum(oracle.value(each[1]) > coming for each, coming in zip(told[1], told[0]))
            crossings = [crossing for trip in trips for crossing in trip.crossings]
            for piece in road.pieces[1::2]:
                self.assertEqual(verdict(road, crossings, piece.name)[0], "safe")
                for on, off, _, _ in oracle.all_stays(road, crossings, piece.name):
                    self.assertFalse(any(on < end and begin < off for begin, end in oracle.shut_hours(road, piece.name)))
        self.assertGreater(waited, 20, "too few of the drawn carts wait")

    def test_a_day_is_its_trips_one_by_one(self):
        for draw in draws("one by one", 20):
            road = busy_road(draw, 2, 1)
            carts = [busy_cart(draw) for _ in range(3)]
            sends = [(cart, ways_of(road)[0], (0, 1)) for cart in carts
                     if ways_of(road)[0] in oracle.fitting_ways(road, cart.wheels)]
            crossings = []
            for trip, send in zip(watched(road, sends), sends):
                alone = trip_of(road, crossings, *send)
                self.assertEqual((alone.crossings, alone.ended), (trip.crossings, trip.ended))
                crossings = crossings + alone.crossings


class Kept(unittest.TestCase):
    def setUp(self):
        self.road = road_with([("a", 10, 100, 5, 100), ("b", 10, 100, 5, 100)], (), [("a", 20, 60)])
        self.cart = Cart("t", 2, [(1, 0, 60), (5, 1, 1)])
        self.crossings = [("a", (100, 1), 2, [(1, 0, 60)]), ("b", (100, 1), 2, [(1, 0, 60)])]

    def test_what_is_handed_in_stays(self):
        before = (road_fields(self.road), cart_fields(self.cart))
        kept = [(*each[:3], list(each[3])) for each in self.crossings]
        wheels = list(self.cart.wheels)
        sends = [(self.cart, (True, True), (0, 1))] * 2
        may_enter(self.road, self.crossings, ("a", (0, 1), 2, wheels))
        entry_at(self.road, self.crossings, "a", 2, wheels, (0, 1))
        trip_of(self.road, self.crossings, self.cart, (True, True), (0, 1))
        watched(self.road, sends)
        self.assertEqual((road_fields(self.road), cart_fields(self.cart)), (before[0], ("t", 2, [(1, 0, 60), (5, 1, 1)])))
        self.assertEqual(before[1], ("t", 2, wheels))
        self.assertEqual(self.crossings, kept)
        self.assertEqual(len(sends), 2)

    def test_no_told_list_is_another_one(self):
        trips = watched(self.road, [(self.cart, (True, True), (0, 1))] * 3)
        one = trip_of(self.road, self.crossings, self.cart, (True, True), (0, 1))
        lists = [trips, self.crossings, self.cart.wheels] + [each[3] for each in self.crossings]
        for trip in trips + [one]:
            self.assertIs(trip.cart, self.cart)
            lists.append(trip.crossings)
            lists.extend([crossing[3] for crossing in trip.crossings])
        self.assertEqual(len({id(each) for each in lists}), len(lists))

    def test_what_is_done_later_changes_nothing(self):
        ask = lambda: [(trip.crossings, trip.ended) for trip in watched(self.road, [(self.cart, (True, True), (0, 1))] * 2)]
        expected = ask()
        told = watched(self.road, [(self.cart, (True, True), (0, 1))] * 2)
        told[0].crossings[0][3].append((9, 9, 9))
        self.assertEqual([(trip.crossings, trip.ended) for trip in told[1:]], expected[1:])
        told[0].crossings.clear()
        told.pop()
        self.assertEqual(ask(), expected)
        again = watched(self.road, [(self.cart, (True, True), (0, 1))] * 2)
        self.cart.wheels.clear()
        self.assertEqual([(trip.crossings, trip.ended) for trip in again], expected)

    def test_a_trip_keeps_crossings_of_its_own(self):
        trip = Trip(self.cart, (True, True), (0, 1), self.crossings, (9, 1))
        self.crossings[0][3].clear()
        self.crossings.clear()
        self.assertEqual(trip.crossings, [("a", (100, 1), 2, [(1, 0, 60)]), ("b", (100, 1), 2, [(1, 0, 60)])])


if __name__ == "__main__":
    unittest.main()
