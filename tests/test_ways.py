"""Point 12: ways along a road."""

import unittest
from itertools import product

from ballastway.roads import bridges_of, round_of
from ballastway.ways import legs_of, length_of, round_way, ways_of
from tests.given import NAMES, drawn_road, draws, road_fields, road_with

THREE = [("a", 10, 1, 1, 1), ("aa", 20, 1, 1, 1), ("b", 30, 1, 1, 1)]
OPENS = [200, 300, 400, 500]


def by_name(road, way):
    return [(bridge.name, place) for bridge, place in legs_of(road, way)]


class Ways(unittest.TestCase):
    def test_no_round(self):
        for number in range(1, 7):
            road = road_with([(name, 1, 1, 1, 1) for name in NAMES[:number]])
            self.assertEqual(ways_of(road), [(True,) * number])
            self.assertEqual(round_way(road), (True,) * number)

    def test_one_round(self):
        for place, name in enumerate(["a", "aa", "b"]):
            road = road_with(THREE, [(name, 5)])
            other = tuple(each != place for each in range(3))
            self.assertEqual(ways_of(road), [(True, True, True), other])
            self.assertEqual(round_way(road), other)

    def test_two_rounds_told_in_another_order(self):
        road = road_with(THREE, [("b", 5), ("a", 6)])
        self.assertEqual(ways_of(road), [(True, True, True), (True, True, False), (False, True, True),
                                         (False, True, False)])
        self.assertEqual(round_way(road), (False, True, False))

    def test_all_rounds(self):
        for number in range(1, 7):
            names = NAMES[:number]
            road = road_with([(name, 1, 1, 1, 1) for name in names], [(name, 9) for name in names[::-1]])
            self.assertEqual(ways_of(road), list(product([True, False], repeat=number)))
            self.assertEqual(round_way(road), (False,) * number)
            self.assertEqual(ways_of(road)[-1], round_way(road))

    def test_kinds(self):
        road = road_with(THREE, [("a", 5)])
        self.assertIs(type(ways_of(road)), list)
        for way in ways_of(road) + [round_way(road)]:
            self.assertIs(type(way), tuple)
            self.assertEqual([type(each) for each in way], [bool] * 3)


class Legs(unittest.TestCase):
    def test_by_hand(self):
        road = road_with(THREE, [("b", 5), ("a", 6), ("aa", 1000)], (), OPENS)
        told = {
            (True, True, True): ([("a", 200), ("aa", 510), ("b", 930)], 1460),
            (True, True, False): ([("a", 200), ("aa", 510)], 1435),
            (True, False, True): ([("a", 200), ("b", 1910)], 2440),
            (True, False, False): ([("a", 200)], 2415),
            (False, True, True): ([("aa", 506), ("b", 926)], 1456),
            (False, True, False): ([("aa", 506)], 1431),
            (False, False, True): ([("b", 1906)], 2436),
            (False, False, False): ([], 2411),
        }
        self.assertEqual(ways_of(road), list(told))
        for way, (legs, length) in told.items():
            self.assertEqual(by_name(road, way), legs)
            self.assertEqual(length_of(road, way), length)

    def test_drawn(self):
        for draw in draws("ways", 100):
            road = drawn_road(draw, draw.randint(1, 6))
            for way in ways_of(road):
                legs = []
                along = road.pieces[0].length
                for place, bridge in enumerate(bridges_of(road)):
                    if way[place]:
                        legs.append((bridge.name, along))
                    along = along + (bridge.length if way[place] else round_of(road, bridge.name))
                    along = along + road.pieces[2 * place + 2].length
                self.assertEqual(by_name(road, way), legs)
                self.assertEqual(length_of(road, way), along)

    def test_the_bridges_themselves(self):
        road = road_with(THREE, [("aa", 5)])
        self.assertEqual([leg[0] for leg in legs_of(road, (True, True, True))], bridges_of(road))

    def test_kinds(self):
        legs = legs_of(road_with(THREE), (True, True, True))
        self.assertIs(type(legs), list)
        self.assertEqual([type(leg) for leg in legs], [tuple] * 3)
        self.assertIs(type(length_of(road_with(THREE), (True, True, True))), int)


class Kept(unittest.TestCase):
    def test_told_lists_are_the_askers_own(self):
        road = road_with(THREE, [("aa", 5)])
        before = road_fields(road_with(THREE, [("aa", 5)]))
        for ask in [lambda: ways_of(road), lambda: legs_of(road, (True, False, True))]:
            told = ask()
            expected = list(told)
            told.clear()
            self.assertEqual(ask(), expected)
            self.assertIsNot(ask(), ask())
        self.assertEqual(road_fields(road), before)


if __name__ == "__main__":
    unittest.main()
