"""Points 10, 11, 3 and 1: roads read from texts and written."""

import unittest
from itertools import product

from ballastway.errors import BadRow, NoBridge, TooNear, Twice
from ballastway.roadtext import road_from, road_of, road_rows, road_text
from ballastway.roads import Bridge, Open, Road
from tests.given import NAMES, drawn_road, draws, road_fields, road_with

PLAIN = ["open 200", "bridge a 10 100 5 50", "open 300", "bridge aa 20 200 6 60", "open 1000"]
FULL = PLAIN + ["shut aa 3 4", "round aa 1", "shut a 0 10000", "round a 1000", "shut aa 1 2"]


class Refused(unittest.TestCase):
    def refused(self, rows, kind, number):
        for read in [lambda: road_of("\n".join(rows)), lambda: road_from(rows)]:
            with self.assertRaises(kind) as raised:
                read()
            self.assertIs(type(raised.exception), kind, rows)
            self.assertEqual(raised.exception.row, number, rows)

    def replaced(self, place, row, kind):
        self.refused(FULL[:place] + [row] + FULL[place + 1:], kind, place + 1)


class Read(unittest.TestCase):
    def test_plain(self):
        road = road_of("\n".join(PLAIN))
        self.assertEqual(road_fields(road), (
            [(200,), ("a", 10, 100, 5, 50), (300,), ("aa", 20, 200, 6, 60), (1000,)], [], []))
        self.assertEqual([type(piece) for piece in road.pieces], [Open, Bridge, Open, Bridge, Open])
        self.assertIs(type(road), Road)

    def test_rounds_and_shuts_in_any_order(self):
        road = road_of("\n".join(FULL))
        self.assertEqual(road.rounds, [("aa", 1), ("a", 1000)])
        self.assertEqual(road.shuts, [("aa", 3, 4), ("a", 0, 10000), ("aa", 1, 2)])

    def test_the_same_shut_hour_again(self):
        road = road_of("\n".join(PLAIN + ["shut a 5 6", "shut a 5 6", "shut a 4 9"]))
        self.assertEqual(road.shuts, [("a", 5, 6), ("a", 5, 6), ("a", 4, 9)])

    def test_one_to_six_bridges(self):
        for number in range(1, 7):
            bridges = [(name, 1, 1, 1, 1) for name in NAMES[:number]]
            rows = ["open 200"]
            for name in NAMES[:number]:
                rows.extend([f"bridge {name} 1 1 1 1", "open 200"])
            self.assertEqual(road_fields(road_of("\n".join(rows))), road_fields(road_with(bridges)))
            self.assertEqual(road_from(rows)[1], 2 * number + 1)

    def test_names_that_are_words_of_rows(self):
        rows = ["open 200", "bridge open 1 1 1 1", "open 200", "bridge round 1 1 1 1", "open 200",
                "round round 5", "shut open 1 2"]
        road = road_of("\n".join(rows))
        self.assertEqual((road.rounds, road.shuts), ([("round", 5)], [("open", 1, 2)]))

    def test_bounds(self):
        least = ["open 200", "bridge a 1 1 1 1", "open 200", "round a 1", "shut a 0 1"]
        most = ["open 1000", "bridge abcdefghijkl 1000 10000000 200 10000000", "open 1000", "round abcdefghijkl 1000",
                "shut abcdefghijkl 9999 10000"]
        for rows in [least, most]:
            self.assertEqual(road_rows(road_of("\n".join(rows))), rows)


class Taken(unittest.TestCase):
    def test_what_is_taken_and_left(self):
        behind = ["load a 1", "send a 5", "", " round a 5", " shut a 1 2", "\tround a 5", "round\ta 5", "shuts a 1 2",
                  "roun a 5", "open 200", "wheel", "Round a 5", "\t"]
        for row in behind:
            for rows in [PLAIN, FULL]:
                told = road_from(rows + [row, "round a 1"])
                self.assertEqual(told[1], len(rows), row)
                self.assertEqual(road_fields(told[0]), road_fields(road_of("\n".join(rows))))
                with self.assertRaises(BadRow) as raised:
                    road_of("\n".join(rows + [row, "round a 1"]))
                self.assertEqual(raised.exception.row, len(rows) + 1)

    def test_bridges_behind_rounds_are_left(self):
        told = road_from(FULL + ["bridge b 1 1 1 1", "open 200"])
        self.assertEqual(told[1], len(FULL))

    def test_kinds(self):
        told = road_from(FULL)
        self.assertIs(type(told), tuple)
        self.assertEqual([type(each) for each in told], [Road, int])

    def test_rows_stay(self):
        rows = FULL + ["load a 1"]
        kept = list(rows)
        told = road_from(rows)
        self.assertEqual(rows, kept)
        rows.clear()
        self.assertEqual(road_rows(told[0]), road_rows(road_of("\n".join(FULL))))


class Rows(Refused):
    def test_each_row_in_another_place(self):
        for place, row in product(range(len(PLAIN)), ["open 200", "bridge b 1 1 1 1", "round a 5", "shut a 1 2"]):
            if row.split()[0] != PLAIN[place].split()[0]:
                # Where a bridge may stand but need not, the road ends: that row is the first one behind.
                rows = PLAIN[:place] + [row] + PLAIN[place + 1:]
                with self.assertRaises(BadRow) as raised:
                    road_of("\n".join(rows))
                expected = place + 1 if row.split()[0] in ["open", "bridge"] or place != 3 else place + 2
                self.assertEqual(raised.exception.row, expected, rows)

    def test_other_rows_in_each_place(self):
        for place, row in product([0, 1, 2, 4], ["", " ", "road", "Open 200", "load a 1", "wheel 1 1 1", "send a 5"]):
            self.refused(PLAIN[:place] + [row] + PLAIN[place + 1:], BadRow, place + 1)

    def test_missing_rows(self):
        self.refused([], BadRow, 1)
        for number in [1, 2, 4]:
            self.refused(PLAIN[:number], BadRow, number + 1)
        with self.assertRaises(BadRow) as raised:
            road_of("")
        self.assertEqual(raised.exception.row, 1)

    def test_a_line_end_behind(self):
        for rows, number in [(PLAIN, 6), (FULL, 11), (["open 200"], 2), ([""], 2)]:
            with self.assertRaises(BadRow) as raised:
                road_of("\n".join(rows) + "\n")
            self.assertEqual(raised.exception.row, 1 if rows == [""] else number)

    def test_a_seventh_bridge(self):
        rows = ["open 200"]
        for name in NAMES:
            rows.extend([f"bridge {name} 1 1 1 1", "open 200"])
        for name in ["c", "a"]:
            self.refused(rows + [f"bridge {name} 1 1 1 1", "open 200"], BadRow, 14)
        self.refused(rows + ["bridge"], BadRow, 14)

    def test_words_too_few_and_too_many(self):
        for place, row in enumerate(FULL):
            words = row.split(" ")
            self.replaced(place, row + " 5", BadRow)
            self.replaced(place, row + " a", BadRow)
            if place not in [3]:
                self.replaced(place, " ".join(words[:-1]), BadRow)
        self.replaced(3, "bridge aa 20 200 6", BadRow)
        for row in ["open", "bridge", "round", "shut"]:
            for place in range(len(FULL)):
                if FULL[place].startswith(row):
                    self.replaced(place, row, BadRow)

    def test_blanks_and_tabs(self):
        for place, row in enumerate(FULL):
            blanks = [spot for spot, sign in enumerate(row) if sign == " "]
            wrong = [row + " ", row + "\t"]
            for spot in blanks:
                wrong.append(row[:spot] + " " + row[spot:])
                if spot != blanks[0]:
                    wrong.append(row[:spot] + "\t" + row[spot + 1:])
            for each in wrong:
                self.replaced(place, each, BadRow)
            for each in [" " + row, "\t" + row, row.replace(" ", "\t", 1)]:
                rows = FULL[:place] + [each] + FULL[place + 1:]
                with self.assertRaises(BadRow) as raised:
                    road_of("\n".join(rows))
                self.assertEqual(raised.exception.row, place + 1)


class Bounds(Refused):
    def each_number(self, place, spot, least, most):
        words = FULL[place].split(" ")
        wrong = [str(least - 1), str(most + 1), "01", "+5", "-1", "5.0", "", "x", "5 5", "1" * 61, "9" * 60, "1_0",
                 f"0{least}", f"{most}0"]
        for text in wrong:
            self.replaced(place, " ".join(words[:spot] + [text] + words[spot + 1:]), BadRow)

    def test_each_number(self):
        self.each_number(0, 1, 1, 1000)
        self.each_number(1, 2, 1, 1000)
        self.each_number(1, 3, 1, 10000000)
        self.each_number(1, 4, 1, 200)
        self.each_number(1, 5, 1, 10000000)
        self.each_number(2, 1, 1, 1000)
        self.each_number(6, 2, 1, 1000)
        self.each_number(7, 2, 0, 10000)
        self.each_number(7, 3, 1, 10000)

    def test_names(self):
        for name in ["", "A", "abcdefghijklm", "a1", "a-b", "1", "a\tb", "a/"]:
            self.replaced(1, f"bridge {name} 1 1 1 1", BadRow)
            self.replaced(6, f"round {name} 5", BadRow)
            self.replaced(7, f"shut {name} 1 2", BadRow)

    def test_from_less_than_to(self):
        for begin, end in [(0, 0), (5, 5), (6, 5), (10000, 10000), (10000, 0)]:
            self.replaced(7, f"shut a {begin} {end}", BadRow)
        for begin, end in [(0, 1), (9999, 10000), (5, 6)]:
            self.assertEqual(road_of("\n".join(PLAIN + [f"shut a {begin} {end}"])).shuts, [("a", begin, end)])

    def test_too_near(self):
        for place in [0, 2, 4]:
            for length in [1, 2, 100, 199]:
                self.replaced(place, f"open {length}", TooNear)
            self.replaced(place, "open 0", BadRow)
        for length in [1, 199, 200]:
            self.assertEqual(road_of("\n".join(PLAIN + [f"round a {length}"])).rounds, [("a", length)])


class Order(Refused):
    def test_no_bridge(self):
        for name in ["b", "aaa", "open", "abcdefghijkl"]:
            self.replaced(6, f"round {name} 5", NoBridge)
            self.replaced(7, f"shut {name} 1 2", NoBridge)

    def test_twice(self):
        self.replaced(3, "bridge a 1 1 1 1", Twice)
        self.refused(FULL + ["round a 5"], Twice, 11)
        self.refused(PLAIN + ["round a 5", "round a 5"], Twice, 7)
        self.refused(PLAIN + ["round a 5", "shut a 1 2", "round aa 5", "round a 5"], Twice, 9)

    def test_two_faults_in_one_row(self):
        self.replaced(3, "bridge a 0 1 1 1", BadRow)
        self.replaced(3, "bridge a 1 1 201 1", BadRow)
        self.refused(FULL + ["round a 0"], BadRow, 11)
        self.refused(FULL + ["round b 1001"], BadRow, 11)
        self.refused(PLAIN + ["round b 5", "round b 5"], NoBridge, 6)
        self.refused(PLAIN + ["shut b 2 2"], BadRow, 6)
        self.refused(PLAIN + ["shut b 2 10001"], BadRow, 6)
        self.replaced(0, "open 5 5", BadRow)

    def test_two_faulty_rows(self):
        wrong = {0: [("open 5", TooNear), ("open x", BadRow)], 1: [("bridge a", BadRow)],
                 2: [("open 199", TooNear), ("open 0", BadRow)], 3: [("bridge a 1 1 1 1", Twice)],
                 4: [("open 1", TooNear)], 5: [("shut b 1 2", NoBridge), ("shut a 2 1", BadRow)],
                 6: [("round b 1", NoBridge), ("round a", BadRow)], 8: [("round aa 5", Twice)],
                 9: [("shut aa", BadRow), ("round aa 5", Twice), ("shut b 1 2", NoBridge)]}
        for first, second in product(wrong, wrong):
            if first < second:
                for one, other in product(wrong[first], wrong[second]):
                    rows = list(FULL)
                    rows[first] = one[0]
                    rows[second] = other[0]
                    self.refused(rows, one[1], first + 1)

    def test_a_fault_ahead_of_a_missing_row(self):
        self.refused(["open 5"], TooNear, 1)
        self.refused(["open 200", "bridge a 1 1 1 1", "open 200", "bridge a 1 1 1 1"], Twice, 4)


class Written(unittest.TestCase):
    def test_rows_in_their_order(self):
        road = road_of("\n".join(FULL))
        expected = PLAIN + ["round aa 1", "round a 1000", "shut aa 3 4", "shut a 0 10000", "shut aa 1 2"]
        self.assertEqual(road_rows(road), expected)
        self.assertEqual(road_text(road), "\n".join(expected))

    def test_read_back(self):
        for draw in draws("roads", 200):
            road = drawn_road(draw, draw.randint(1, 6))
            again = road_of(road_text(road))
            self.assertEqual(road_fields(again), road_fields(road))
            self.assertEqual(road_text(again), road_text(road))
            self.assertEqual(road_from(road_rows(road))[1], len(road_rows(road)))

    def test_rows_are_the_askers_own(self):
        road = road_of("\n".join(FULL))
        told = road_rows(road)
        expected = list(told)
        told.clear()
        self.assertEqual(road_rows(road), expected)

    def test_the_same_each_time(self):
        text = "\n".join(FULL)
        one = road_of(text)
        one.pieces.clear()
        one.rounds.clear()
        one.shuts.clear()
        self.assertEqual(len(road_rows(road_of(text))), 10)


if __name__ == "__main__":
    unittest.main()
