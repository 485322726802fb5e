"""Points 37, 38 and 1: logs as texts, and reports."""

import unittest

from ballastway.days import log_of, run
from ballastway.daytext import day_of, day_text
from ballastway.errors import BadRow, Blocked, NoBridge, NoLoad, TooLong, TooNear, Twice
from ballastway.report import heard, log_text, report
from tests import oracle
from tests.given import draws
from tests.test_days import drawn_day

LOG = [((0, 1), "start", 0, ""), ((7, 2), "come", 11, "a"), ((7, 2), "on", 0, "abcdefghijkl"), ((25, 6), "off", 0, "on"),
       ((1000, 1), "end", 2, "")]
ROWS = ["0 start 1", "7/2 come 12 a", "7/2 on 1 abcdefghijkl", "25/6 off 1 on", "1000 end 3"]
DAY = """open 200
bridge a 20 100 5 60
open 200
bridge b 20 100 5 60
open 200
bridge c 20 100 5 60
open 200
round c 20
round a 80
shut b 60 70
load long 4
wheel 1 0 60
wheel 10 40 40
wheel 9 0 60
load light 10
wheel 1 0 5
send light 3 round a c
send long 7 round c"""


class Written(unittest.TestCase):
    def test_by_hand(self):
        self.assertEqual(log_text(LOG), "\n".join(ROWS))
        self.assertEqual(heard("\n".join(ROWS)), LOG)

    def test_the_empty_log(self):
        self.assertEqual(log_text([]), "")
        self.assertEqual(heard(""), [])

    def test_written_and_heard(self):
        for draw in draws("heard", 40):
            log = log_of(drawn_day(draw))
            text = log_text(log)
            self.assertEqual(heard(text), log)
            self.assertEqual(log_text(heard(text)), text)

    def test_in_any_order(self):
        self.assertEqual(heard("\n".join(ROWS[::-1] + ROWS)), LOG[::-1] + LOG)

    def test_kinds(self):
        told = heard("\n".join(ROWS))
        self.assertIs(type(told), list)
        for each in told:
            self.assertIs(type(each), tuple)
            self.assertEqual([type(part) for part in each], [tuple, str, int, str])

    def test_great_numbers(self):
        most = 10 ** 60 - 1
        text = f"{most}/{most - 1} on {most} a"
        self.assertEqual(heard(text), [((most, most - 1), "on", most - 1, "a")])
        self.assertEqual(log_text(heard(text)), text)

    def test_kept(self):
        log = list(LOG)
        self.assertEqual(log_text(log), log_text(log))
        self.assertEqual(log, LOG)
        heard("\n".join(ROWS)).clear()
        self.assertEqual(heard("\n".join(ROWS)), LOG)
        self.assertIsNot(heard(""), heard(""))


class Unheard(unittest.TestCase):
    def refused(self, rows, number):
        with self.assertRaises(BadRow) as raised:
            heard("\n".join(rows))
        self.assertIs(type(raised.exception), BadRow, rows)
        self.assertEqual(raised.exception.row, number, rows)

    def test_each_row_that_is_not_so(self):
        wrong = ["", " ", "0", "0 start", "0 start 1 a", "0 start 1 ", "0 end 1 a", "0 come 1", "0 on 1", "0 off 1", "0 on 1 ",
                 "0 on 1 a b", "0 on 1 A", "0 on 1 abcdefghijklm", "0 on 1 5", "0 on 0 a", "0 start 0", "0 start 01",
                 "0 start +1", "0 start -1", "0 start x", "0 start 1/2", "00 start 1", "-1 start 1", "-1/2 on 1 a",
                 "-0 start 1", "2/4 start 1", "1/1 start 1", "1/0 start 1", "0.5 start 1", "x start 1", "0 begin 1",
                 "0 Start 1", "0 ended 1", "0  start 1", " 0 start 1", "0 start  1", "0\tstart 1", "0 start\t1",
                 "0 start 1\t", "start 0 1", "0 1 start", "0 on a 1", f"{'1' * 61} start 1", f"0 start {'1' * 61}", "on"]
        for row in wrong:
            for place in range(len(ROWS) + 1):
                rows = ROWS[:place] + [row] + ROWS[place:]
                if row != "":
                    self.refused([row], 1)
                self.refused(rows, place + 1)

    def test_the_first_one(self):
        self.refused(["0 start 1", "0 on 1", "0 start 0"], 2)
        self.refused(["", ""], 1)
        self.refused(["0 start 1", ""], 2)


class Reports(unittest.TestCase):
    def test_by_hand(self):
        # Light, 480 far, is at b at 51, off at 53, and ends at 95. The first cart of long, 60 and 40, is at a at 57 and
        # at b at 112; the second, 60, waits at a until the first wheel is off, at 62, and comes to b at 117, as it is off.
        self.assertEqual(report(DAY).split("\n"), [
            "light ended 95", "long ended 449/2", "long ended 227", "a safe 119/2 40 100", "b safe 229/2 40 100",
            "c empty"])

    def test_nothing_crosses(self):
        rows = DAY.split("\n")
        self.assertEqual(report("\n".join(rows[:10])), "a empty\nb empty\nc empty")
        self.assertEqual(report("\n".join(rows[:16])), "a empty\nb empty\nc empty")

    def test_drawn(self):
        for draw in draws("reports", 60):
            day = drawn_day(draw)
            trips = run(day)
            crossings = [crossing for trip in trips for crossing in trip.crossings]
            expected = [f"{trip.cart.name} ended {oracle.value(trip.ended)}" for trip in trips]
            for name in [piece.name for piece in day.road.pieces[1::2]]:
                ons = sorted(stay[0] for stay in oracle.all_stays(day.road, crossings, name))
                if ons:
                    sums = [oracle.sums(day.road, crossings, name, on) for on in ons]
                    place = max(range(len(ons)), key=lambda each: (sums[each][1], -each))
                    expected.append(f"{name} safe {ons[place]} {sums[place][0]} {sums[place][1]}")
                else:
                    expected.append(f"{name} empty")
            self.assertEqual(report(day_text(day)), "\n".join(expected))
            self.assertEqual(report(day_text(day)), report(day_text(day)))

    def test_refused(self):
        rows = DAY.split("\n")
        for place, row, kind in [(0, "open 5", TooNear), (3, "bridge a 1 1 1 1", Twice), (7, "round q 5", NoBridge),
                                 (13, "wheel 101 1 1", BadRow), (14, "load long 1", Twice), (16, "send q 5", NoLoad),
                                 (17, "send light 5", Twice), (17, "send long 5 round b", NoBridge), (17, "", BadRow)]:
            with self.assertRaises(kind) as raised:
                report("\n".join(rows[:place] + [row] + rows[place + 1:]))
            self.assertIs(type(raised.exception), kind)
            self.assertEqual(raised.exception.row, place + 1)
        with self.assertRaises(TooLong) as raised:
            report("\n".join(rows[:14] + ["wheel 100 1 1", "wheel 100 1 1"] + rows[14:]))
        self.assertEqual(raised.exception.row, 16)

    def test_blocked(self):
        for row, wheel in [("wheel 1 0 61", 0), ("wheel 1 61 61", 0)]:
            with self.assertRaises(Blocked) as raised:
                report(DAY.replace("wheel 1 0 60", row))
            self.assertEqual((raised.exception.bridge, raised.exception.wheel), ("a", wheel))
        with self.assertRaises(Blocked) as raised:
            report(DAY.replace("wheel 1 0 5", "wheel 1 0 5\nwheel 9 0 61"))
        self.assertEqual((raised.exception.bridge, raised.exception.wheel), ("b", 1))
        # What the text refuses comes ahead of what the bridges do.
        with self.assertRaises(NoLoad):
            report(DAY.replace("wheel 1 0 5", "wheel 1 0 61") + "\nsend q 5")


if __name__ == "__main__":
    unittest.main()
