"""Points 8, 9 and 1: roads, their pieces, rounds and shut hours."""

import unittest

from ballastway.roads import Bridge, Open, Road, bridge_of, bridges_of, round_of, shuts_of
from tests.given import NAMES, bridge_fields, road_fields, road_with

BRIDGES = [(name, 10 + place, 100 + place, 20 + place, 50 + place) for place, name in enumerate(NAMES)]


def six():
    rounds = [("ab", 300), ("a", 7), ("ba", 1000)]
    shuts = [("b", 50, 60), ("a", 5, 6), ("b", 0, 10), ("aa", 1, 2), ("b", 5, 55), ("b", 50, 60)]
    return road_with(BRIDGES, rounds, shuts)


class Pieces(unittest.TestCase):
    def test_fields(self):
        self.assertEqual(Open(230).length, 230)
        bridge = Bridge("old", 40, 900, 12, 300)
        self.assertEqual((bridge.name, bridge.length, bridge.bears, bridge.wide, bridge.most),
                         ("old", 40, 900, 12, 300))

    def test_no_class_of_a_piece_stands_under_the_other(self):
        self.assertFalse(issubclass(Open, Bridge))
        self.assertFalse(issubclass(Bridge, Open))

    def test_two_keep_their_own(self):
        one = Bridge("a", 1, 2, 3, 4)
        other = Bridge("b", 5, 6, 7, 8)
        self.assertEqual(bridge_fields(one), ("a", 1, 2, 3, 4))
        self.assertEqual(bridge_fields(other), ("b", 5, 6, 7, 8))

    def test_fields_of_a_road(self):
        pieces = [Open(200), Bridge("a", 1, 2, 3, 4), Open(201)]
        road = Road(pieces, [("a", 9)], [("a", 0, 1)])
        self.assertEqual(road.pieces, pieces)
        self.assertEqual(road.rounds, [("a", 9)])
        self.assertEqual(road.shuts, [("a", 0, 1)])


class Told(unittest.TestCase):
    def test_bridges_of_one_to_six(self):
        for number in range(1, 7):
            road = road_with(BRIDGES[:number])
            self.assertEqual([bridge_fields(bridge) for bridge in bridges_of(road)], BRIDGES[:number])
            self.assertTrue(all(isinstance(bridge, Bridge) for bridge in bridges_of(road)))

    def test_bridge_of_names_that_begin_alike(self):
        for bridges in [BRIDGES, BRIDGES[::-1]]:
            road = road_with(bridges)
            for fields in bridges:
                self.assertEqual(bridge_fields(bridge_of(road, fields[0])), fields)

    def test_rounds_in_another_order_than_the_bridges(self):
        road = six()
        self.assertEqual([round_of(road, name) for name in NAMES], [7, None, 300, None, None, 1000])

    def test_no_rounds(self):
        road = road_with(BRIDGES)
        self.assertEqual([round_of(road, name) for name in NAMES], [None] * 6)

    def test_shuts_in_the_order_told(self):
        road = six()
        self.assertEqual(shuts_of(road, "b"), [(50, 60), (0, 10), (5, 55), (50, 60)])
        self.assertEqual(shuts_of(road, "a"), [(5, 6)])
        self.assertEqual(shuts_of(road, "aa"), [(1, 2)])
        self.assertEqual(shuts_of(road, "ab"), [])

    def test_kinds(self):
        road = six()
        self.assertIs(type(bridges_of(road)), list)
        self.assertIs(type(shuts_of(road, "b")), list)
        self.assertEqual([type(pair) for pair in shuts_of(road, "b")], [tuple] * 4)
        self.assertIs(type(round_of(road, "a")), int)


class Kept(unittest.TestCase):
    def test_a_road_keeps_lists_of_its_own(self):
        pieces = [Open(200), Bridge("a", 1, 2, 3, 4), Open(201)]
        rounds = [("a", 9)]
        shuts = [("a", 0, 1)]
        road = Road(pieces, rounds, shuts)
        before = road_fields(road)
        for handed, kept in [(pieces, road.pieces), (rounds, road.rounds), (shuts, road.shuts)]:
            self.assertIsNot(handed, kept)
            handed.clear()
        self.assertEqual(road_fields(road), ([(200,), ("a", 1, 2, 3, 4), (201,)], [("a", 9)], [("a", 0, 1)]))
        self.assertEqual(len(before[0]), 3)
        self.assertEqual((round_of(road, "a"), shuts_of(road, "a")), (9, [(0, 1)]))

    def test_two_roads_of_the_same_lists(self):
        pieces = [Open(200), Bridge("a", 1, 2, 3, 4), Open(201)]
        one = Road(pieces, [], [])
        other = Road(pieces, [], [])
        one.rounds.append(("a", 5))
        one.shuts.append(("a", 5, 6))
        one.pieces.pop()
        self.assertEqual((len(other.pieces), other.rounds, other.shuts), (3, [], []))

    def test_told_lists_are_the_askers_own(self):
        road = six()
        before = road_fields(road_with(BRIDGES, list(road.rounds), list(road.shuts)))
        for ask in [lambda: bridges_of(road), lambda: shuts_of(road, "b"), lambda: shuts_of(road, "ab")]:
            told = ask()
            again = ask()
            expected = list(told)
            self.assertIsNot(told, again)
            told.append(None)
            told.reverse()
            self.assertEqual(again, expected)
            self.assertEqual(ask(), expected)
        self.assertEqual(road_fields(road), before)


if __name__ == "__main__":
    unittest.main()
