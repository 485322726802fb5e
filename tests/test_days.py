"""Points 35, 36, 2 and 1: carts that are sent, days that are run, and their logs."""

import unittest
from fractions import Fraction

from ballastway.days import carts_sent, log_of, replayed, run
from ballastway.daytext import Day, day_of, day_text
from ballastway.errors import Blocked
from ballastway.loads import Cart, joined
from ballastway.parting import parted
from ballastway.watch import watched
from ballastway.ways import ways_of
from tests import oracle
from tests.given import NAMES, busy_cart, busy_road, cart_fields, draws, road_fields, road_with

WORDS = ["off", "end", "start", "come", "on"]
ROAD = road_with([("a", 20, 100, 5, 60), ("b", 20, 100, 5, 60)], [("a", 80)], [("b", 60, 70)])
# In three carts over the bridges: 60 and 40, then 60 and 40 again, then 60.
LONG = Cart("long", 4, [(1, 0, 60), (10, 40, 40), (9, 0, 60), (10, 0, 40), (8, 60, 60)])
LIGHT = Cart("light", 10, [(1, 0, 5)])


def drawn_day(draw, shuts=2):
    road = busy_road(draw, draw.randint(1, 3), None, shuts)
    loads = [busy_cart(draw, name, 4) for name in draw.sample(NAMES, draw.randint(0, 4))]
    places = draw.sample(range(len(loads)), draw.randint(0, len(loads)))
    sends = []
    for place in places:
        ways = [way for way in ways_of(road) if can_be_parted(road, loads[place], way)]
        if ways:
            sends.append((place, draw.randint(0, 30), draw.choice(ways)))
    return Day(road, loads, sends)


def can_be_parted(road, cart, way):
    try:
        parted(road, cart, way)
    except Blocked:
        return False
    return True


def expected_log(day):
    """The log of the day, reckoned apart from the program."""
    trips = oracle.day(day.road, carts_sent(day))
    log = []
    for number, (comings, crossings, ended) in enumerate(trips):
        start = oracle.value(carts_sent(day)[number][2])
        log.extend([(start, "start", number, ""), (ended, "end", number, "")])
        for coming, crossing in zip(comings, crossings):
            log.append((coming, "come", number, crossing[0]))
            log.append((oracle.value(crossing[1]), "on", number, crossing[0]))
            log.append((oracle.stays(day.road, crossing)[-1][1], "off", number, crossing[0]))
    names = [piece.name for piece in day.road.pieces[1::2]]
    log.sort(key=lambda told: (told[0], WORDS.index(told[1]), told[2], ["", *names].index(told[3])))
    return [(oracle.pair(told[0]), *told[1:]) for told in log]


class Sent(unittest.TestCase):
    def test_in_order_and_parted(self):
        day = Day(ROAD, [LIGHT, LONG], [(1, 7, (True, True)), (0, 3, (False, True))])
        told = carts_sent(day)
        self.assertIs(type(told), list)
        self.assertEqual([(cart.name, cart.speed, cart.wheels, way, start) for cart, way, start in told], [
            ("long", 4, LONG.wheels[:2], (True, True), (7, 1)), ("long", 4, LONG.wheels[2:4], (True, True), (7, 1)),
            ("long", 4, LONG.wheels[4:], (True, True), (7, 1)), ("light", 10, LIGHT.wheels, (False, True), (3, 1))])
        self.assertEqual(cart_fields(joined([each[0] for each in told[:3]])), cart_fields(LONG))

    def test_no_sends(self):
        self.assertEqual(carts_sent(Day(ROAD, [LIGHT], [])), [])
        self.assertEqual(run(Day(ROAD, [], [])), [])
        self.assertEqual(log_of(Day(ROAD, [LIGHT], [])), [])

    def test_as_parted(self):
        for draw in draws("sent", 60):
            day = drawn_day(draw)
            expected = []
            for place, minute, way in day.sends:
                expected.extend([(cart_fields(cart), way, (minute, 1)) for cart in parted(day.road, day.loads[place], way)])
            self.assertEqual([(cart_fields(cart), way, start) for cart, way, start in carts_sent(day)], expected)

    def test_blocked(self):
        rock = Cart("rock", 1, [(1, 0, 60), (1, 0, 61)])
        stone = Cart("stone", 1, [(1, 0, 70)])
        for sends, wheel in [([(0, 0, (True, True)), (1, 0, (True, True))], 1), ([(1, 0, (True, True))], 0),
                             ([(2, 0, (True, True)), (1, 0, (True, True)), (0, 0, (True, True))], 0)]:
            day = Day(ROAD, [rock, stone, LIGHT], sends)
            for ask in [carts_sent, run, log_of, lambda asked: replayed(asked, [])]:
                with self.assertRaises(Blocked) as raised:
                    ask(day)
                self.assertIs(type(raised.exception), Blocked)
                self.assertEqual((raised.exception.bridge, raised.exception.wheel), ("a", wheel))
        day = Day(ROAD, [rock], [(0, 0, (False, True))])
        with self.assertRaises(Blocked) as raised:
            log_of(day)
        self.assertEqual((raised.exception.bridge, raised.exception.wheel), ("b", 1))


class Run(unittest.TestCase):
    def test_watched_of_the_carts_sent(self):
        for draw in draws("run", 40):
            day = drawn_day(draw)
            told = [(trip.cart.name, trip.way, trip.start, trip.crossings, trip.ended) for trip in run(day)]
            again = watched(day.road, carts_sent(day))
            self.assertEqual(told, [(trip.cart.name, trip.way, trip.start, trip.crossings, trip.ended) for trip in again])
            self.assertEqual([each[3:] for each in told],
                             [(each[1], oracle.pair(each[2])) for each in oracle.day(day.road, carts_sent(day))])


class Logs(unittest.TestCase):
    def test_each_word_and_its_time(self):
        day = Day(ROAD, [LIGHT], [(0, 38, (True, True))])
        # At a at 58, off at 60; at b at 80.
        self.assertEqual(log_of(day), [
            ((38, 1), "start", 0, ""), ((58, 1), "come", 0, "a"), ((58, 1), "on", 0, "a"), ((60, 1), "off", 0, "a"),
            ((80, 1), "come", 0, "b"), ((80, 1), "on", 0, "b"), ((82, 1), "off", 0, "b"), ((102, 1), "end", 0, "")])

    def test_waiting(self):
        day = Day(ROAD, [Cart("two", 10, [(1, 0, 5), (5, 0, 5)])], [(0, 17, (True, True))])
        # At b at 59, where it would be on in the shut hour: it waits until 70.
        self.assertEqual(log_of(day), [
            ((17, 1), "start", 0, ""), ((37, 1), "come", 0, "a"), ((37, 1), "on", 0, "a"), ((79, 2), "off", 0, "a"),
            ((59, 1), "come", 0, "b"), ((70, 1), "on", 0, "b"), ((145, 2), "off", 0, "b"), ((185, 2), "end", 0, "")])

    def test_round_all_bridges(self):
        road = road_with([("a", 20, 1, 1, 1)], [("a", 80)])
        day = Day(road, [LIGHT], [(0, 2, (False,))])
        self.assertEqual(log_of(day), [((2, 1), "start", 0, ""), ((50, 1), "end", 0, "")])

    def test_the_order_at_one_time(self):
        # The first one's wheel is off at 30 as the second comes and is on; a third ends, and a fourth starts then.
        road = road_with([("a", 100, 10, 5, 10)], [("a", 1)], (), [200, 200])
        loads = [Cart("p", 10, [(1, 0, 10)]), Cart("q", 10, [(1, 0, 10)]), Cart("r", 10, [(1, 0, 900), (99, 0, 900)]),
                 Cart("s", 10, [(1, 0, 900)])]
        day = Day(road, loads, [(1, 10, (True,)), (0, 0, (True,)), (3, 30, (False,))])
        self.assertEqual([told for told in log_of(day) if told[0] == (30, 1)],
                         [((30, 1), "off", 1, "a"), ((30, 1), "start", 2, ""), ((30, 1), "come", 0, "a"),
                          ((30, 1), "on", 0, "a")])
        # It drives 401 and a span of 99: for fifty minutes.
        day = Day(road, loads, [(3, 50, (False,)), (2, 0, (False,)), (1, 20, (True,)), (0, 30, (True,))])
        self.assertEqual([told for told in log_of(day) if told[0] == (50, 1)],
                         [((50, 1), "off", 2, "a"), ((50, 1), "end", 1, ""), ((50, 1), "start", 0, ""),
                          ((50, 1), "come", 3, "a"), ((50, 1), "on", 3, "a")])

    def test_the_cart_goes_ahead_of_the_bridge(self):
        loads = [LIGHT, Cart("other", 10, [(1, 0, 5)])]
        day = Day(ROAD, loads, [(0, 0, (True, True)), (1, 22, (True, True))])
        self.assertEqual([told[1:] for told in log_of(day) if told[0] == (42, 1)],
                         [("come", 0, "b"), ("come", 1, "a"), ("on", 0, "b"), ("on", 1, "a")])
        self.assertEqual([told[1:] for told in log_of(day) if told[0] == (44, 1)], [("off", 0, "b"), ("off", 1, "a")])

    def test_alike_words_by_cart(self):
        road = road_with([("a", 20, 1000, 5, 600), ("b", 20, 1000, 5, 600)])
        loads = [Cart(name, 10, [(1, 0, 5)]) for name in ["x", "y", "z"]]
        day = Day(road, loads, [(2, 0, (True, True)), (0, 0, (True, True)), (1, 0, (True, True))])
        log = log_of(day)
        self.assertEqual([told[1:3] for told in log[:9]], [
            ("start", 0), ("start", 1), ("start", 2), ("come", 0), ("come", 1), ("come", 2), ("on", 0), ("on", 1), ("on", 2)])

    def test_alike_words_of_one_cart_by_the_bridges(self):
        # Such a short piece is none of a text's; only so is a cart off two bridges at one time.
        road = road_with([("b", 20, 1000, 5, 600), ("a", 20, 1000, 5, 600)], (), (), [200, 0, 200])
        road.pieces[2].length = -20
        day = Day(road, [LIGHT], [(0, 0, (True, True))])
        self.assertEqual([told[1:] for told in log_of(day)], [
            ("start", 0, ""), ("come", 0, "b"), ("come", 0, "a"), ("on", 0, "b"), ("on", 0, "a"), ("off", 0, "b"),
            ("off", 0, "a"), ("end", 0, "")])

    def test_drawn(self):
        rows = 0
        for draw in draws("logs", 60):
            day = drawn_day(draw)
            log = log_of(day)
            rows = rows + len(log)
            self.assertIs(type(log), list)
            self.assertTrue(all(type(told) is tuple for told in log))
            self.assertEqual(log, expected_log(day))
        self.assertGreater(rows, 300)

    def test_of_a_text(self):
        for draw in draws("log of a text", 20):
            day = drawn_day(draw)
            self.assertEqual(log_of(day_of(day_text(day))), log_of(day))


class Replayed(unittest.TestCase):
    def test_the_log_itself(self):
        for draw in draws("replayed", 30):
            day = drawn_day(draw)
            self.assertIs(replayed(day, log_of(day)), True)

    def test_changed_in_one_place(self):
        day = Day(ROAD, [LIGHT, LONG], [(1, 7, (True, True)), (0, 3, (False, True))])
        log = log_of(day)
        for place, told in enumerate(log):
            later = oracle.pair(oracle.value(told[0]) + Fraction(1, 1000))
            for wrong in [(later, *told[1:]), (told[0], "off" if told[1] != "off" else "on", *told[2:]),
                          (told[0], told[1], told[2] + 1, told[3]), (*told[:3], "c"), (*told[:3], "" if told[3] else "a")]:
                self.assertIs(replayed(day, log[:place] + [wrong] + log[place + 1:]), False)
            self.assertIs(replayed(day, log[:place] + log[place + 1:]), False)
            self.assertIs(replayed(day, log[:place] + [told] + log[place:]), False)
            if place:
                swapped = log[:place - 1] + [log[place], log[place - 1]] + log[place + 1:]
                self.assertIs(replayed(day, swapped), False)
        self.assertIs(replayed(day, []), False)
        self.assertIs(replayed(Day(ROAD, [LIGHT], []), []), True)
        self.assertIs(replayed(Day(ROAD, [LIGHT], []), log[:1]), False)

    def test_of_another_day(self):
        day = Day(ROAD, [LIGHT], [(0, 3, (False, True))])
        for sends in [[(0, 4, (False, True))], [(0, 3, (True, True))], []]:
            self.assertIs(replayed(day, log_of(Day(ROAD, [LIGHT], sends))), False)


class Kept(unittest.TestCase):
    def test_lists(self):
        day = Day(ROAD, [LIGHT, LONG], [(1, 7, (True, True)), (0, 3, (False, True))])
        before = (day_text(day), road_fields(day.road))
        expected = log_of(day)
        sent = carts_sent(day)
        for cart, _, _ in sent:
            self.assertNotIn(id(cart.wheels), [id(load.wheels) for load in day.loads])
            cart.wheels.clear()
        sent.clear()
        trips = run(day)
        for trip in trips:
            trip.cart.wheels.clear()
            trip.crossings.clear()
        trips.clear()
        log_of(day).clear()
        log = log_of(day)
        self.assertIs(replayed(day, log), True)
        self.assertEqual(log, expected)
        self.assertEqual((day_text(day), road_fields(day.road)), before)


if __name__ == "__main__":
    unittest.main()
