"""Points 20 and 1: when the wheels of a crossing are on the bridge."""

import unittest
from fractions import Fraction

from ballastway.crossing import clear_at, times_on
from tests.given import drawn_wheels, draws, road_fields, road_with

ROAD = road_with([("a", 10, 100, 5, 50), ("aa", 25, 100, 5, 50), ("b", 1000, 100, 5, 50)])


def pair(number):
    return (number.numerator, number.denominator)


class Times(unittest.TestCase):
    def test_by_hand(self):
        wheels = [(9, 1, 1), (4, 1, 1), (6, 1, 1)]
        self.assertEqual(times_on(ROAD, ("a", (0, 1), 1, wheels)), [((0, 1), (10, 1)), ((4, 1), (14, 1)), ((10, 1), (20, 1))])
        self.assertEqual(times_on(ROAD, ("a", (7, 2), 4, wheels)),
                         [((7, 2), (6, 1)), ((9, 2), (7, 1)), ((6, 1), (17, 2))])
        self.assertEqual(times_on(ROAD, ("aa", (1, 3), 12, wheels)),
                         [((1, 3), (29, 12)), ((2, 3), (11, 4)), ((7, 6), (13, 4))])
        self.assertEqual(clear_at(ROAD, ("aa", (1, 3), 12, wheels)), (13, 4))

    def test_speeds_entries_and_wheels(self):
        lengths = {"a": 10, "aa": 25, "b": 1000}
        for draw in draws("crossing", 5):
            for speed in range(1, 13):
                for number in range(1, 9):
                    wheels = (drawn_wheels(draw) * 8)[:number]
                    entry = Fraction(draw.randint(0, 500), draw.randint(1, 40))
                    name = draw.choice(["a", "aa", "b"])
                    expected = []
                    offset = 0
                    for place, wheel in enumerate(wheels):
                        offset = offset + (wheel[0] if place else 0)
                        on = entry + Fraction(offset, speed)
                        expected.append((pair(on), pair(on + Fraction(lengths[name], speed))))
                    crossing = (name, pair(entry), speed, wheels)
                    self.assertEqual(times_on(ROAD, crossing), expected)
                    self.assertEqual(clear_at(ROAD, crossing), expected[-1][1])

    def test_one_wheel(self):
        self.assertEqual(times_on(ROAD, ("b", (5, 7), 7, [(3, 1, 1)])), [((5, 7), (1005, 7))])
        self.assertEqual(clear_at(ROAD, ("b", (5, 7), 7, [(3, 1, 1)])), (1005, 7))

    def test_kinds(self):
        told = times_on(ROAD, ("a", (1, 3), 4, [(1, 1, 1), (2, 1, 1)]))
        self.assertIs(type(told), list)
        for times in told:
            self.assertIs(type(times), tuple)
            self.assertEqual([type(each) for each in times], [tuple, tuple])

    def test_kept(self):
        wheels = [(1, 1, 1), (2, 1, 1)]
        crossing = ("a", (1, 3), 4, wheels)
        before = road_fields(road_with([("a", 10, 100, 5, 50), ("aa", 25, 100, 5, 50), ("b", 1000, 100, 5, 50)]))
        told = times_on(ROAD, crossing)
        expected = list(told)
        told.clear()
        self.assertEqual(times_on(ROAD, crossing), expected)
        self.assertEqual(crossing, ("a", (1, 3), 4, [(1, 1, 1), (2, 1, 1)]))
        self.assertEqual(road_fields(ROAD), before)


if __name__ == "__main__":
    unittest.main()
