"""Points 13, 16, 17, 18 and 1: carts, wheels, and what fits a bridge."""

import unittest
from itertools import combinations

from ballastway.loads import Cart, fits, heaviest, joined, lightest, offsets_of, span_of
from ballastway.roads import Bridge
from tests.given import cart_fields, draws, drawn_wheels

FOUR = [(7, 1, 10), (10, 2, 20), (5, 30, 30), (20, 0, 1)]


def greatest(wheels, width, spot):
    """Every choice of wheels is gone through: the greatest sum of those within less than the width."""
    offsets = [sum(wheel[0] for wheel in wheels[1:place + 1]) for place in range(len(wheels))]
    sums = []
    for number in range(1, len(wheels) + 1):
        for chosen in combinations(range(len(wheels)), number):
            if offsets[chosen[-1]] - offsets[chosen[0]] < width:
                sums.append(sum(wheels[place][spot] for place in chosen))
    return max(sums)


class Carts(unittest.TestCase):
    def test_fields(self):
        cart = Cart("timber", 7, FOUR)
        self.assertEqual((cart.name, cart.speed, cart.wheels), ("timber", 7, FOUR))

    def test_a_cart_keeps_a_list_of_its_own(self):
        wheels = list(FOUR)
        one = Cart("a", 1, wheels)
        other = Cart("b", 2, wheels)
        self.assertIsNot(one.wheels, wheels)
        wheels.clear()
        one.wheels.pop()
        self.assertEqual(one.wheels, FOUR[:3])
        self.assertEqual(other.wheels, FOUR)


class Offsets(unittest.TestCase):
    def test_the_first_gap_counts_nothing(self):
        for gap in [1, 50, 100]:
            wheels = [(gap, 1, 1)] + FOUR[1:]
            self.assertEqual(offsets_of(wheels), [0, 10, 15, 35])
            self.assertEqual(span_of(wheels), 35)

    def test_one_to_eight(self):
        wheels = [(place + 1, 0, 0) for place in range(8)]
        for number in range(1, 9):
            offsets = [0, 2, 5, 9, 14, 20, 27, 35][:number]
            self.assertEqual(offsets_of(wheels[:number]), offsets)
            self.assertEqual(span_of(wheels[:number]), offsets[-1])

    def test_one_wheel(self):
        self.assertEqual((offsets_of([(9, 1, 2)]), span_of([(9, 1, 2)])), ([0], 0))

    def test_told_lists_are_the_askers_own(self):
        wheels = list(FOUR)
        told = offsets_of(wheels)
        told.clear()
        self.assertEqual(offsets_of(wheels), [0, 10, 15, 35])
        self.assertEqual(wheels, FOUR)


class Sums(unittest.TestCase):
    def test_within_less_than_the_width(self):
        # Offsets 0, 10, 15, 35.
        for width, high, low in [(1, 30, 30), (5, 30, 30), (6, 50, 32), (10, 50, 32), (15, 50, 32), (16, 60, 33),
                                 (20, 60, 33), (21, 60, 33), (25, 60, 33), (35, 60, 33), (36, 61, 33), (200, 61, 33)]:
            self.assertEqual((heaviest(FOUR, width), lightest(FOUR, width)), (high, low), width)

    def test_just_the_distance_of_two_wheels(self):
        for gap in [1, 2, 50, 100]:
            wheels = [(1, 3, 4), (gap, 5, 6)]
            self.assertEqual((heaviest(wheels, gap), lightest(wheels, gap)), (6, 5))
            self.assertEqual((heaviest(wheels, gap + 1), lightest(wheels, gap + 1)), (10, 8))
            self.assertEqual((heaviest(wheels, 1), lightest(wheels, 1)), (6, 5))

    def test_the_two_may_be_of_other_wheels(self):
        wheels = [(1, 0, 9), (5, 4, 5), (5, 4, 4)]
        self.assertEqual((heaviest(wheels, 1), lightest(wheels, 1)), (9, 4))
        self.assertEqual((heaviest(wheels, 6), lightest(wheels, 6)), (14, 8))

    def test_bounds_alike(self):
        wheels = [(gap, weight, weight) for gap, weight in [(3, 5), (4, 0), (2, 7), (9, 1)]]
        for width in range(1, 30):
            self.assertEqual(heaviest(wheels, width), lightest(wheels, width))

    def test_no_weight(self):
        self.assertEqual((heaviest([(1, 0, 0)] * 3, 5), lightest([(1, 0, 0)] * 3, 5)), (0, 0))

    def test_every_choice(self):
        for draw in draws("sums", 60):
            wheels = drawn_wheels(draw)
            offsets = offsets_of(wheels)
            distances = [later - offset for offset in offsets for later in offsets if later > offset]
            for width in sorted({1, 200, draw.randint(1, 60)} | {each + step for each in distances for step in [0, 1]}):
                self.assertEqual(heaviest(wheels, width), greatest(wheels, width, 2))
                self.assertEqual(lightest(wheels, width), greatest(wheels, width, 1))

    def test_one_to_eight(self):
        for number in range(1, 9):
            wheels = [(10, place, 2 * place) for place in range(number)]
            last_two = wheels[-2:]
            self.assertEqual(heaviest(wheels, 11), sum(wheel[2] for wheel in last_two))
            self.assertEqual(lightest(wheels, 11), sum(wheel[1] for wheel in last_two))
            self.assertEqual(heaviest(wheels, 200), sum(wheel[2] for wheel in wheels))


class Joined(unittest.TestCase):
    def test_one(self):
        cart = Cart("a", 3, FOUR)
        told = joined([cart])
        self.assertEqual(cart_fields(told), ("a", 3, FOUR))
        self.assertIsNot(told, cart)
        self.assertIsNot(told.wheels, cart.wheels)

    def test_several(self):
        carts = [Cart("a", 3, FOUR), Cart("b", 5, [(100, 1, 2)]), Cart("c", 7, FOUR[::-1])]
        self.assertEqual(cart_fields(joined(carts)), ("a", 3, FOUR + [(100, 1, 2)] + FOUR[::-1]))
        self.assertEqual(cart_fields(joined(carts[1:])), ("b", 5, [(100, 1, 2)] + FOUR[::-1]))

    def test_more_than_eight_wheels_and_any_span(self):
        told = joined([Cart("a", 1, [(100, 1, 1)] * 8)] * 3)
        self.assertEqual((len(told.wheels), span_of(told.wheels)), (24, 2300))

    def test_kept(self):
        carts = [Cart("a", 3, FOUR[:2]), Cart("a", 3, FOUR[2:])]
        told = joined(carts)
        told.wheels.clear()
        self.assertEqual([cart.wheels for cart in carts], [FOUR[:2], FOUR[2:]])
        self.assertEqual(joined(carts).wheels, FOUR)
        self.assertEqual(len(carts), 2)


class Fits(unittest.TestCase):
    def test_by_the_length(self):
        # Offsets 0, 10, 15, 35: all four highs within less than 36.
        for length, sum_of_highs in [(15, 50), (16, 60), (35, 60), (36, 61)]:
            self.assertIs(fits(Bridge("a", length, sum_of_highs, 1, 1000), FOUR), True)
            self.assertIs(fits(Bridge("a", length, sum_of_highs - 1, 1, 1000), FOUR), False)
            self.assertIs(fits(Bridge("a", length, sum_of_highs + 1, 1, 1000), FOUR), True)

    def test_by_the_wide(self):
        for wide, sum_of_highs in [(1, 30), (5, 30), (6, 50), (16, 60), (36, 61)]:
            self.assertIs(fits(Bridge("a", 1, 1000, wide, sum_of_highs), FOUR), True)
            self.assertIs(fits(Bridge("a", 1, 1000, wide, sum_of_highs - 1), FOUR), False)

    def test_by_both(self):
        self.assertIs(fits(Bridge("a", 6, 50, 16, 60), FOUR), True)
        self.assertIs(fits(Bridge("a", 6, 49, 16, 60), FOUR), False)
        self.assertIs(fits(Bridge("a", 6, 50, 16, 59), FOUR), False)
        self.assertIs(fits(Bridge("a", 6, 49, 16, 59), FOUR), False)

    def test_the_highs_count(self):
        self.assertIs(fits(Bridge("a", 1, 9, 1, 9), [(1, 0, 10)]), False)
        self.assertIs(fits(Bridge("a", 1, 10, 1, 10), [(1, 10, 10)]), True)

    def test_what_is_handed_in_stays(self):
        wheels = list(FOUR)
        bridge = Bridge("a", 6, 50, 16, 60)
        for _ in range(2):
            self.assertIs(fits(bridge, wheels), True)
            self.assertEqual((heaviest(wheels, 6), lightest(wheels, 6), span_of(wheels)), (50, 32, 35))
        self.assertEqual(wheels, FOUR)
        self.assertEqual((bridge.name, bridge.length, bridge.bears, bridge.wide, bridge.most), ("a", 6, 50, 16, 60))


if __name__ == "__main__":
    unittest.main()
