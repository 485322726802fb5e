"""Point 2 over the whole program: from a day's text to its log, its plan and its paper."""

import unittest
from fractions import Fraction

from ballastway.burden import verdict
from ballastway.days import carts_sent, log_of, replayed, run
from ballastway.daytext import day_of, day_text
from ballastway.loads import fits, joined
from ballastway.papers import paper_of
from ballastway.plans import plan_of
from ballastway.report import heard, log_text, report
from ballastway.roads import bridge_of, bridges_of
from ballastway.watch import watched
from tests import oracle
from tests.given import busy_cart, busy_road, cart_fields, draws
from tests.test_days import drawn_day

# Every text is read anew by each test, as one who has nothing but the text would.
TEXTS = [day_text(drawn_day(draw, 4)) for draw in draws("whole", 60)]


def crossings_of(trips):
    return [crossing for trip in trips for crossing in trip.crossings]


class Watch(unittest.TestCase):
    def test_no_bridge_bears_more_whatever_the_weights_are(self):
        borne = 0
        for draw, text in zip(draws("weights", len(TEXTS)), TEXTS):
            day = day_of(text)
            crossings = crossings_of(run(day))
            for bridge in bridges_of(day.road):
                stays = [(on, off, draw.choice([low, high, draw.randint(low, high)]))
                         for on, off, low, high in oracle.all_stays(day.road, crossings, bridge.name)]
                for moment in oracle.with_between([each for stay in stays for each in stay[:2]]):
                    weights = [weight for on, off, weight in stays if on <= moment < off]
                    borne = borne + (len(weights) > 1)
                    self.assertLessEqual(sum(weights), bridge.bears)
                self.assertEqual(verdict(day.road, crossings, bridge.name)[0], "safe")
        self.assertGreater(borne, 100)

    def test_nothing_is_on_a_shut_bridge(self):
        asked = 0
        for text in TEXTS:
            day = day_of(text)
            crossings = crossings_of(run(day))
            for name, begin, end in day.road.shuts:
                for on, off, _, _ in oracle.all_stays(day.road, crossings, name):
                    asked = asked + 1
                    self.assertTrue(off <= begin or end <= on)
        self.assertGreater(asked, 100)

    def test_every_cart_fits_its_bridges(self):
        for text in TEXTS:
            day = day_of(text)
            for trip in run(day):
                for name, _, speed, wheels in trip.crossings:
                    self.assertTrue(fits(bridge_of(day.road, name), wheels))
                    self.assertEqual((speed, wheels), (trip.cart.speed, trip.cart.wheels))

    def test_each_enters_at_the_least_moment(self):
        for text in TEXTS:
            day = day_of(text)
            told = [(trip.crossings, oracle.value(trip.ended)) for trip in run(day)]
            self.assertEqual(told, [(each[1], each[2]) for each in oracle.day(day.road, carts_sent(day))])

    def test_parted_carts_joined_are_the_load(self):
        parted_loads = 0
        for text in TEXTS:
            day = day_of(text)
            carts = [sent[0] for sent in carts_sent(day)]
            for place, _, _ in day.sends:
                name = day.loads[place].name
                own = [cart for cart in carts if cart.name == name]
                parted_loads = parted_loads + (len(own) > 1)
                self.assertEqual(cart_fields(joined(own)), cart_fields(day.loads[place]))
        self.assertGreater(parted_loads, 10)


class Logs(unittest.TestCase):
    def test_the_log_read_back_is_the_same(self):
        for text in TEXTS:
            log = log_of(day_of(text))
            self.assertEqual(heard(log_text(log)), log)

    def test_it_is_the_days_only_one(self):
        for text in TEXTS:
            day = day_of(text)
            log = log_of(day)
            self.assertIs(replayed(day, heard(log_text(log))), True)
            self.assertIs(replayed(day_of(day_text(day)), log), True)
            if log:
                later = oracle.pair(oracle.value(log[-1][0]) + 1)
                self.assertIs(replayed(day, log[:-1]), False)
                self.assertIs(replayed(day, log + log[-1:]), False)
                self.assertIs(replayed(day, log[:-1] + [(later, *log[-1][1:])]), False)
                self.assertIs(replayed(day, [(later, *log[0][1:])] + log[1:]), False)

    def test_the_report_agrees_with_the_log(self):
        for text in TEXTS:
            day = day_of(text)
            ends = {cart: moment for moment, word, cart, _ in log_of(day) if word == "end"}
            crossed = {bridge for _, word, _, bridge in log_of(day) if word == "on"}
            rows = [row.split(" ") for row in report(text).split("\n")]
            trips = len(carts_sent(day))
            self.assertEqual([Fraction(row[2]) for row in rows[:trips]], [oracle.value(ends[cart]) for cart in range(trips)])
            for row, bridge in zip(rows[trips:], bridges_of(day.road)):
                self.assertEqual(row[:2], [bridge.name, "safe" if bridge.name in crossed else "empty"])
            self.assertEqual(len(rows), trips + len(bridges_of(day.road)))


class Plans(unittest.TestCase):
    def test_no_order_and_no_ways_end_sooner(self):
        sooner = 0
        for draw in draws("whole plans", 40):
            road = busy_road(draw, draw.randint(1, 3), 1)
            carts = [busy_cart(draw) for _ in range(draw.randint(1, 3))]
            shapes = oracle.shapes(road, carts)
            if shapes:
                end = oracle.value(plan_of(road, carts)[0])
                least = oracle.value(paper_of(road, carts)[2])
                for order, ways in shapes:
                    trips = watched(road, [(carts[place], way, (0, 1)) for place, way in zip(order, ways)])
                    other = max(oracle.value(trip.ended) for trip in trips)
                    sooner = sooner + (end < other)
                    self.assertLessEqual(end, other)
                    self.assertLessEqual(least, other)
        self.assertGreater(sooner, 50)


if __name__ == "__main__":
    unittest.main()
