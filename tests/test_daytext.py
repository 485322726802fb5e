"""Points 33, 34, 3 and 1: days read from texts and written."""

import unittest
from itertools import product

from ballastway.days import log_of
from ballastway.daytext import Day, day_of, day_text
from ballastway.errors import BadRow, NoBridge, NoLoad, TooLong, TooNear, Twice
from ballastway.loads import Cart
from ballastway.ways import ways_of
from tests.given import NAMES, cart_fields, drawn_cart, drawn_road, draws, road_fields, road_with

ROAD = ["open 200", "bridge a 10 100 5 50", "open 200", "bridge aa 20 200 6 60", "open 200", "bridge b 30 300 7 70",
        "open 200", "round b 300", "round a 100", "shut aa 5 6"]
LOADS = ["load x 3", "wheel 7 1 10", "load xy 12", "wheel 9 0 5", "wheel 9 0 5", "load y 1", "wheel 1 1 1"]
SENDS = ["send y 0", "send x 10000 round a b", "send xy 7 round b"]
DAY = ROAD + LOADS + SENDS
FIRST_SEND = len(ROAD + LOADS)


def day_fields(day):
    return (road_fields(day.road), [cart_fields(load) for load in day.loads], day.sends)


class Read(unittest.TestCase):
    def test_fields(self):
        day = day_of("\n".join(DAY))
        self.assertIs(type(day), Day)
        self.assertEqual(day.sends, [(2, 0, (True, True, True)), (0, 10000, (False, True, False)),
                                     (1, 7, (True, True, False))])
        self.assertEqual([cart_fields(load) for load in day.loads],
                         [("x", 3, [(7, 1, 10)]), ("xy", 12, [(9, 0, 5), (9, 0, 5)]), ("y", 1, [(1, 1, 1)])])
        self.assertEqual(road_fields(day.road)[1:], ([("b", 300), ("a", 100)], [("aa", 5, 6)]))
        self.assertEqual([type(send) for send in day.sends], [tuple] * 3)
        self.assertEqual([type(each) for each in day.sends[1]], [int, int, tuple])

    def test_no_send_and_no_load(self):
        for rows, loads in [(ROAD, 0), (ROAD + LOADS, 3), (ROAD[:7], 0)]:
            day = day_of("\n".join(rows))
            self.assertEqual((len(day.loads), day.sends), (loads, []))

    def test_a_send_for_each_of_six_loads(self):
        rows = list(ROAD)
        for name in NAMES:
            rows.extend([f"load {name} 1", "wheel 1 1 1"])
        rows.extend([f"send {name} {place}" for place, name in enumerate(NAMES[::-1])])
        self.assertEqual(day_of("\n".join(rows)).sends, [(5 - place, place, (True,) * 3) for place in range(6)])

    def test_each_choice_of_rounds(self):
        for names, way in [("", (True, True, True)), (" round a", (False, True, True)), (" round b", (True, True, False)),
                           (" round a b", (False, True, False))]:
            self.assertEqual(day_of("\n".join(ROAD + LOADS + ["send x 5" + names])).sends, [(0, 5, way)])


class Refused(unittest.TestCase):
    def refused(self, rows, kind, number):
        with self.assertRaises(kind) as raised:
            day_of("\n".join(rows))
        self.assertIs(type(raised.exception), kind, rows)
        self.assertEqual(raised.exception.row, number, rows)

    def sent(self, row, kind, ahead=()):
        rows = ROAD + LOADS + list(ahead)
        self.refused(rows + [row], kind, len(rows) + 1)
        self.refused(rows + [row, "send x", ""], kind, len(rows) + 1)

    def test_words(self):
        for row in ["send", "send x", "send x 5 5", "send x 5 round", "send x 5 a", "send x 5 around a", "Send x 5",
                    "send x round a", "send X 5", "send x1 5", "send x 5 round A", "send x 5 round a b1",
                    "send x 5 round abcdefghijklm", "send abcdefghijklm 5", "send x 5 round a round b 5", "send 5 x",
                    "send x 5 shut a", "sends x 5", "send x 5 a round"]:
            self.sent(row, BadRow)

    def test_minutes(self):
        for text in ["10001", "-1", "+1", "01", "1.0", "", "x", "1" * 61, "9" * 60]:
            self.sent(f"send x {text}", BadRow)
            self.sent(f"send x {text} round a", BadRow)
        for text in ["0", "1", "10000"]:
            self.assertEqual(day_of("\n".join(ROAD + LOADS + [f"send x {text}"])).sends[0][1], int(text))

    def test_blanks_and_tabs(self):
        for row in ["send x 5", "send x 5 round a b"]:
            for spot in [spot for spot, sign in enumerate(row) if sign == " "]:
                self.sent(row[:spot] + " " + row[spot:], BadRow)
                self.sent(row[:spot] + "\t" + row[spot + 1:], BadRow)
            for wrong in [" " + row, "\t" + row, row + " ", row + "\t"]:
                self.sent(wrong, BadRow)

    def test_bridges_twice_or_out_of_order(self):
        for names in ["a a", "b b", "a b a", "b a", "aa a", "b aa", "q q", "a q a", "q b a", "b q a", "aa aa"]:
            self.sent(f"send x 5 round {names}", BadRow)

    def test_no_bridge(self):
        for names in ["aa", "q", "a aa b", "a q b", "q a", "a b q", "x", "q r"]:
            self.sent(f"send x 5 round {names}", NoBridge)

    def test_no_load(self):
        for name in ["z", "xx", "a", "send", "round"]:
            self.sent(f"send {name} 5", NoLoad)
            self.sent(f"send {name} 5 round a", NoLoad)

    def test_sent_twice(self):
        self.sent("send x 5", Twice, ["send x 5"])
        self.sent("send x 6 round a", Twice, ["send y 1", "send x 5", "send xy 2"])

    def test_two_faults_in_one_row(self):
        self.sent("send z 10001", BadRow)
        self.sent("send z 5 round b a", BadRow)
        self.sent("send x 5 round a a", BadRow, ["send x 5"])
        self.sent("send x 5 round b q a", BadRow, ["send x 5"])
        self.sent("send z 5 round q", NoLoad)
        self.sent("send z 5 round q", NoLoad, ["send x 5"])
        self.sent("send x 5 round q", Twice, ["send x 5"])
        self.sent("send x 5 round aa", Twice, ["send x 5"])

    def test_rows_behind(self):
        for row in ["", "open 200", "bridge c 1 1 1 1", "round a 5", "shut a 1 2", "load z 1", "wheel 1 1 1", "x"]:
            for place in range(FIRST_SEND + 1, len(DAY) + 1):
                self.refused(DAY[:place] + [row] + DAY[place:], BadRow, place + 1)
        for row in ["", "open 200", "bridge c 1 1 1 1", "round a 5", "shut a 1 2", "x", " send x 5"]:
            self.refused(ROAD + LOADS + [row] + SENDS, BadRow, FIRST_SEND + 1)

    def test_a_line_end_behind(self):
        for rows in [ROAD, ROAD + LOADS, DAY]:
            self.refused(rows + [""], BadRow, len(rows) + 1)

    def test_missing_rows(self):
        self.refused([""], BadRow, 1)
        self.refused(ROAD[:2], BadRow, 3)
        for number in [1, 3, 6]:
            rows = ROAD + LOADS[:number]
            if number != 3 and rows[-1].startswith("load"):
                self.refused(rows, BadRow, len(rows) + 1)
        self.refused(ROAD + ["load x 1", "send x 5"], BadRow, 12)

    def test_numbers_through_the_whole_text(self):
        wrong = [(0, "open 5", TooNear), (1, "bridge a 0 1 1 1", BadRow), (3, "bridge a 1 1 1 1", Twice),
                 (7, "round q 5", NoBridge), (9, "shut aa 6 5", BadRow), (10, "load x 13", BadRow),
                 (11, "wheel 0 1 1", BadRow), (12, "load x 5", Twice), (15, "load y", BadRow), (16, "send x 5", BadRow),
                 (17, "send q 5", NoLoad), (18, "send y 5", Twice), (18, "send x 5 round aa", NoBridge),
                 (19, "wheel 1 1 1", BadRow)]
        for place, row, kind in wrong:
            self.refused(DAY[:place] + [row] + DAY[place + 1:], kind, place + 1)
        for one, other in product(wrong, wrong):
            if one[0] < other[0]:
                rows = list(DAY)
                rows[one[0]] = one[1]
                rows[other[0]] = other[1]
                self.refused(rows, one[2], one[0] + 1)

    def test_too_long(self):
        rows = ROAD + ["load x 1", "wheel 1 1 1", "wheel 100 1 1", "wheel 100 1 1", "wheel 1 1 1", "send q 5"]
        self.refused(rows, TooLong, 15)

    def test_a_seventh_load_and_bridge(self):
        rows = list(ROAD)
        for name in NAMES + ["c"]:
            rows.extend([f"load {name} 1", "wheel 1 1 1"])
        self.refused(rows, BadRow, 23)
        rows = ["open 200"]
        for name in NAMES + ["c"]:
            rows.extend([f"bridge {name} 1 1 1 1", "open 200"])
        self.refused(rows, BadRow, 14)


class Written(unittest.TestCase):
    def test_rows(self):
        self.assertEqual(day_text(day_of("\n".join(DAY))), "\n".join(DAY))
        self.assertEqual(day_text(day_of("\n".join(ROAD))), "\n".join(ROAD))

    def test_read_back(self):
        for draw in draws("day texts", 150):
            road = drawn_road(draw, draw.randint(1, 4))
            loads = [drawn_cart(draw, name) for name in draw.sample(NAMES, draw.randint(0, 6))]
            places = draw.sample(range(len(loads)), draw.randint(0, len(loads)))
            sends = [(place, draw.randint(0, 10000), draw.choice(ways_of(road))) for place in places]
            day = Day(road, loads, sends)
            again = day_of(day_text(day))
            self.assertEqual(day_fields(again), day_fields(day))
            self.assertEqual(day_text(again), day_text(day))


class Kept(unittest.TestCase):
    def test_a_day_keeps_lists_of_its_own(self):
        road = road_with([("a", 10, 100, 5, 50)])
        loads = [Cart("x", 1, [(1, 1, 1)])]
        sends = [(0, 5, (True,))]
        day = Day(road, loads, sends)
        handed = [loads, sends, loads[0].wheels, road.pieces, road.rounds, road.shuts]
        kept = [day.loads, day.sends, day.loads[0].wheels, day.road.pieces, day.road.rounds, day.road.shuts]
        self.assertEqual(day_fields(day), (road_fields(road), [("x", 1, [(1, 1, 1)])], [(0, 5, (True,))]))
        self.assertEqual(len({id(each) for each in handed + kept}), 12)
        before = (day_text(day), log_of(day))
        road.shuts.append(("a", 0, 10000))
        for each in handed:
            each.clear()
        self.assertEqual((day_text(day), log_of(day)), before)
        self.assertEqual((len(day.loads), day.sends), (1, [(0, 5, (True,))]))

    def test_two_days_of_the_same_things(self):
        road = road_with([("a", 10, 100, 5, 50)])
        loads = [Cart("x", 1, [(1, 1, 1)])]
        one = Day(road, loads, [(0, 5, (True,))])
        other = Day(road, loads, [(0, 5, (True,))])
        before = day_text(other)
        one.loads[0].wheels.clear()
        one.loads.clear()
        one.sends.clear()
        one.road.pieces.clear()
        one.road.shuts.append(("a", 0, 1))
        self.assertEqual(day_text(other), before)
        self.assertEqual((len(road.pieces), road.shuts, loads[0].wheels), (3, [], [(1, 1, 1)]))

    def test_the_same_each_time(self):
        text = "\n".join(DAY)
        one = day_of(text)
        one.sends.clear()
        one.loads[0].wheels.clear()
        one.loads.pop()
        one.road.pieces.clear()
        self.assertEqual(day_text(day_of(text)), text)


if __name__ == "__main__":
    unittest.main()
