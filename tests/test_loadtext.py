"""Points 13, 14, 15, 3 and 1: loads read from texts and written."""

import unittest
from itertools import product

from ballastway.errors import BadRow, TooLong, Twice
from ballastway.loadtext import load_rows, loads_from, loads_of, loads_text
from ballastway.loads import Cart
from tests.given import NAMES, cart_fields, draws, drawn_cart

TWO = ["load a 3", "wheel 7 1 10", "wheel 10 20 20", "load aa 12", "wheel 100 0 1000000"]
TWO_FIELDS = [("a", 3, [(7, 1, 10), (10, 20, 20)]), ("aa", 12, [(100, 0, 1000000)])]


def fields(loads):
    return [cart_fields(load) for load in loads]


def loads_numbered(number):
    rows = []
    for name in (NAMES + ["c", "d"])[:number]:
        rows.extend([f"load {name} 1", "wheel 1 1 1"])
    return rows


class Read(unittest.TestCase):
    def test_no_load(self):
        self.assertEqual(loads_of(""), [])
        self.assertEqual(loads_from([], 1), ([], 0))
        self.assertEqual(loads_from([], 40), ([], 0))

    def test_two(self):
        self.assertEqual(fields(loads_of("\n".join(TWO))), TWO_FIELDS)
        told = loads_from(TWO, 1)
        self.assertEqual((fields(told[0]), told[1]), (TWO_FIELDS, 5))

    def test_kinds(self):
        told = loads_from(TWO, 9)
        self.assertIs(type(told), tuple)
        self.assertEqual([type(each) for each in told], [list, int])
        for load in told[0]:
            self.assertIs(type(load), Cart)
            self.assertIs(type(load.wheels), list)
            self.assertTrue(all(type(wheel) is tuple for wheel in load.wheels))

    def test_one_to_six_loads(self):
        for number in range(1, 7):
            rows = loads_numbered(number)
            expected = [(name, 1, [(1, 1, 1)]) for name in NAMES[:number]]
            self.assertEqual(fields(loads_of("\n".join(rows))), expected)
            self.assertEqual(loads_from(rows, 5)[1], 2 * number)

    def test_one_to_eight_wheels(self):
        for number in range(1, 9):
            wheels = [(place + 1, place, 2 * place) for place in range(number)]
            rows = ["load a 1"] + [f"wheel {gap} {low} {high}" for gap, low, high in wheels]
            self.assertEqual(fields(loads_of("\n".join(rows))), [("a", 1, wheels)])

    def test_bounds(self):
        least = ["load a 1", "wheel 1 0 0"]
        most = ["load abcdefghijkl 12", "wheel 100 1000000 1000000"]
        apart = ["load load 5", "wheel 5 0 1000000", "load wheel 5", "wheel 5 999999 1000000"]
        for rows in [least, most, apart]:
            self.assertEqual(loads_text(loads_of("\n".join(rows))), "\n".join(rows))

    def test_a_span_of_200(self):
        for gaps in [[100, 100, 100], [1, 100, 100], [50, 50, 50, 50, 50], [9, 100, 99, 1]]:
            rows = ["load a 1"] + [f"wheel {gap} 1 1" for gap in gaps]
            self.assertEqual(len(loads_of("\n".join(rows))[0].wheels), len(gaps))

    def test_what_is_left(self):
        behind = ["send a 5", "", " load b 1", " wheel 1 1 1", "\twheel 1 1 1", "wheel\t1 1 1", "wheels 1 1 1", "loads",
                  "Load b 1", "open 200", "round a 5"]
        for row in behind:
            for first in [1, 2, 30]:
                told = loads_from(TWO + [row, "wheel 1 1 1", "load c 1"], first)
                self.assertEqual((fields(told[0]), told[1]), (TWO_FIELDS, 5))
                self.assertEqual(loads_from([row, "wheel 1 1 1"], first), ([], 0))
            for rows, number in [(TWO + [row, "load c 1"], 6), ([row, "load c 1"], 1)]:
                with self.assertRaises(BadRow) as raised:
                    loads_of("\n".join(rows))
                self.assertEqual(raised.exception.row, number)


class Refused(unittest.TestCase):
    def refused(self, rows, kind, number):
        with self.assertRaises(kind) as raised:
            loads_of("\n".join(rows))
        self.assertIs(type(raised.exception), kind, rows)
        self.assertEqual(raised.exception.row, number, rows)
        for first in [1, 2, 17]:
            with self.assertRaises(kind) as raised:
                loads_from(rows, first)
            self.assertIs(type(raised.exception), kind, rows)
            self.assertEqual(raised.exception.row, number + first - 1, rows)

    def replaced(self, place, row, kind):
        self.refused(TWO[:place] + [row] + TWO[place + 1:], kind, place + 1)

    def test_a_wheel_ahead_of_any_load(self):
        self.refused(["wheel 1 1 1"], BadRow, 1)
        self.refused(["wheel 1 1 1"] + TWO, BadRow, 1)

    def test_a_load_without_a_wheel(self):
        self.refused(["load a 1"], BadRow, 2)
        self.refused(TWO[:4], BadRow, 5)
        self.refused(["load a 1"] + TWO[3:], BadRow, 2)
        for row in ["send a 5", "", " wheel 1 1 1", "\twheel 1 1 1", "load a 1", "load", "open 200"]:
            self.refused(["load a 1", row], BadRow, 2)
            self.refused(["load a 1", row, "wheel 1 1 1"], BadRow, 2)

    def test_a_line_end_behind(self):
        for text, number in [("\n".join(TWO) + "\n", 6), ("\n", 1), ("load a 1\n", 2)]:
            with self.assertRaises(BadRow) as raised:
                loads_of(text)
            self.assertEqual(raised.exception.row, number)

    def test_a_seventh_load(self):
        self.refused(loads_numbered(7), BadRow, 13)
        self.refused(loads_numbered(8), BadRow, 13)
        self.refused(loads_numbered(6) + ["load a 1", "wheel 1 1 1"], BadRow, 13)
        self.refused(loads_numbered(6) + ["load c 1"], BadRow, 13)

    def test_a_ninth_wheel(self):
        rows = ["load a 1"] + ["wheel 1 1 1"] * 9
        self.refused(rows, BadRow, 10)
        self.refused(rows + ["wheel 1 1 1", "load a 1"], BadRow, 10)
        self.refused(["load a 1"] + ["wheel 28 1 1"] * 8 + ["wheel 100 1 1"], BadRow, 10)

    def test_a_span_of_201(self):
        for gaps, number in [([1, 100, 100, 1], 5), ([100, 67, 67, 67], 5), ([100, 100, 99, 2, 1], 5),
                             ([1, 29, 29, 29, 29, 29, 29, 29], 9)]:
            self.refused(["load a 1"] + [f"wheel {gap} 1 1" for gap in gaps], TooLong, number)
        self.refused(TWO + ["wheel 100 1 1", "wheel 100 1 1", "wheel 1 1 1"], TooLong, 8)

    def test_twice(self):
        self.replaced(3, "load a 12", Twice)
        self.refused(TWO + ["load a 1", "wheel 1 1 1"], Twice, 6)
        self.refused(TWO + ["load aa 1"], Twice, 6)

    def test_low_above_high(self):
        for low, high in [(1, 0), (11, 10), (1000000, 999999)]:
            self.replaced(1, f"wheel 1 {low} {high}", BadRow)

    def test_each_number(self):
        for place, spot, least, most in [(0, 2, 1, 12), (1, 1, 1, 100), (1, 2, 0, 1000000), (1, 3, 0, 1000000)]:
            words = TWO[place].split(" ")
            for text in [str(least - 1), str(most + 1), "01", "+5", "-1", "5.0", "", "x", "5 5", "1" * 61, "9" * 60]:
                self.replaced(place, " ".join(words[:spot] + [text] + words[spot + 1:]), BadRow)

    def test_names(self):
        for name in ["", "A", "abcdefghijklm", "a1", "1", "a\tb"]:
            self.replaced(0, f"load {name} 1", BadRow)

    def test_words_and_blanks(self):
        for place, row in enumerate(TWO):
            wrong = [row + " 1", row + " a", " ".join(row.split(" ")[:-1]), row + " ", row + "\t", row.split(" ")[0],
                     row.replace(" ", "  ", 1), row[::-1].replace(" ", "  ", 1)[::-1],
                     row[::-1].replace(" ", "\t", 1)[::-1]]
            for each in wrong:
                self.replaced(place, each, BadRow)
        for place in [1, 4]:
            for ahead in [" ", "\t"]:
                self.replaced(place, ahead + TWO[place], BadRow)

    def test_two_faults_in_one_row(self):
        self.replaced(3, "load a 13", BadRow)
        self.replaced(3, "load a 1 1", BadRow)
        self.refused(["load a 1", "load a 1"], BadRow, 2)
        self.refused(["load a 1", "wheel 1 1 1", "wheel 100 1 1", "wheel 100 1 1", "wheel 1 2 1"], BadRow, 5)
        self.refused(["load a 1", "wheel 1 1 1", "wheel 100 1 1", "wheel 100 1 1", "wheel 1 1 1000001"], BadRow, 5)

    def test_two_faulty_rows(self):
        rows = ["load a 3", "wheel 7 1 10", "wheel 100 20 20", "wheel 99 20 20", "load aa 12", "wheel 100 0 1000000"]
        wrong = {0: [("load a 0", BadRow)], 1: [("wheel 1 2 1", BadRow), ("load b 1", BadRow)],
                 2: [("wheel 0 1 1", BadRow)], 3: [("wheel 101 1 1", BadRow)],
                 4: [("load a 1", Twice), ("wheel 2 1 1", TooLong), ("load A 1", BadRow)],
                 5: [("wheel 1 1", BadRow), ("send a 5", BadRow)]}
        for first, second in product(wrong, wrong):
            if first < second:
                for one, other in product(wrong[first], wrong[second]):
                    faulty = list(rows)
                    faulty[first] = one[0]
                    faulty[second] = other[0]
                    self.refused(faulty, one[1], first + 1)


class Written(unittest.TestCase):
    def test_rows(self):
        loads = loads_of("\n".join(TWO))
        self.assertEqual([load_rows(load) for load in loads], [TWO[:3], TWO[3:]])
        self.assertEqual(loads_text(loads), "\n".join(TWO))
        self.assertEqual(loads_text([]), "")

    def test_read_back(self):
        for draw in draws("loads", 200):
            loads = [drawn_cart(draw, name) for name in draw.sample(NAMES, draw.randint(0, 6))]
            self.assertEqual(fields(loads_of(loads_text(loads))), fields(loads))
            self.assertEqual(loads_text(loads_of(loads_text(loads))), loads_text(loads))


class Kept(unittest.TestCase):
    def test_what_is_handed_in_stays(self):
        rows = TWO + ["send a 5"]
        kept = list(rows)
        told = loads_from(rows, 1)
        self.assertEqual(rows, kept)
        rows.clear()
        self.assertEqual(fields(told[0]), TWO_FIELDS)

    def test_the_lists_are_the_askers_own(self):
        text = "\n".join(TWO)
        told = loads_of(text)
        told[0].wheels.clear()
        told.pop()
        self.assertEqual(fields(loads_of(text)), TWO_FIELDS)
        loads = loads_of(text)
        rows = load_rows(loads[0])
        rows.clear()
        self.assertEqual(load_rows(loads[0]), TWO[:3])
        self.assertEqual(fields(loads), TWO_FIELDS)
        self.assertIsNot(loads_of(""), loads_of(""))


if __name__ == "__main__":
    unittest.main()
