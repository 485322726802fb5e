"""Points 6, 7 and 1: fractions, and how they are written."""

import unittest
from fractions import Fraction
from itertools import permutations, product

from ballastway.fractions import (frac_of, frac_text, greater_of, in_order, less, made, minus, over, plus, times,
                                  whole)

SMALL = [made(above, beneath) for above in range(-6, 7) for beneath in range(1, 6)]
GREAT = [(10 ** 80 + 1, 3 ** 70), (-(7 ** 90), 2 ** 200), (10 ** 5000 + 1, 10 ** 5000), (5 ** 100, 1)]
FRACTIONS = sorted(set(SMALL)) + GREAT
SIXTY = "9" * 60


def pair(fraction):
    return (fraction.numerator, fraction.denominator)


def value(fraction):
    return Fraction(fraction[0], fraction[1])


class Told(unittest.TestCase):
    def told(self, answer, expected):
        self.assertIs(type(answer), tuple)
        self.assertEqual([type(part) for part in answer], [int, int])
        # No message of the test's own: Python does not write numbers of so many figures.
        self.assertTrue(answer == expected)


class Made(Told):
    def test_both_sides_of_nought(self):
        for above, beneath in product(range(-30, 31), range(-30, 31)):
            if beneath != 0:
                self.told(made(above, beneath), pair(Fraction(above, beneath)))

    def test_signs(self):
        self.told(made(1, 2), (1, 2))
        self.told(made(-1, 2), (-1, 2))
        self.told(made(1, -2), (-1, 2))
        self.told(made(-1, -2), (1, 2))

    def test_nought(self):
        for beneath in [1, -1, 2, -2, 60, -60, 10 ** 5000, -(10 ** 5000)]:
            self.told(made(0, beneath), (0, 1))

    def test_common_parts(self):
        self.told(made(6, 4), (3, 2))
        self.told(made(4, 6), (2, 3))
        self.told(made(12, 4), (3, 1))
        self.told(made(4, -12), (-1, 3))
        self.told(made(7, 7), (1, 1))
        self.told(made(-7, 7), (-1, 1))

    def test_many_figures(self):
        ten = 10 ** 5000
        self.told(made(ten, ten), (1, 1))
        self.told(made(3 * ten, -2 * ten), (-3, 2))
        self.told(made(ten + 1, ten), (ten + 1, ten))
        self.told(made(-ten, 5 * ten), (-1, 5))
        self.told(made(6 * (ten + 1), 4), (3 * (ten + 1), 2))
        self.told(made(2 ** 300 * 3 ** 100, 2 ** 200 * 5 ** 100), (2 ** 100 * 3 ** 100, 5 ** 100))

    def test_whole(self):
        for number in [0, 1, -1, 12, -12, 10 ** 5000, -(10 ** 5000)]:
            self.told(whole(number), (number, 1))


class Reckoned(Told):
    def test_as_fractions_are(self):
        for one, other in product(FRACTIONS, FRACTIONS):
            first = value(one)
            second = value(other)
            self.told(plus(one, other), pair(first + second))
            self.told(minus(one, other), pair(first - second))
            self.told(times(one, other), pair(first * second))
            if second != 0:
                self.told(over(one, other), pair(first / second))

    def test_what_leads_back(self):
        for one, other in product(FRACTIONS, FRACTIONS):
            self.told(minus(plus(one, other), other), one)
            self.told(plus(minus(one, other), other), one)
            if other != (0, 1):
                self.told(over(times(one, other), other), one)
                self.told(times(over(one, other), other), one)

    def test_by_hand(self):
        self.told(plus((1, 2), (1, 3)), (5, 6))
        self.told(plus((1, 2), (-1, 2)), (0, 1))
        self.told(plus((1, 6), (1, 3)), (1, 2))
        self.told(minus((1, 3), (1, 2)), (-1, 6))
        self.told(minus((5, 2), (1, 2)), (2, 1))
        self.told(times((2, 3), (3, 2)), (1, 1))
        self.told(times((-2, 3), (0, 1)), (0, 1))
        self.told(over((1, 2), (-3, 4)), (-2, 3))
        self.told(over((-1, 2), (-1, 4)), (2, 1))
        self.told(over((0, 1), (-5, 7)), (0, 1))


class Compared(Told):
    def test_less_and_greater_of(self):
        for one, other in product(FRACTIONS, FRACTIONS):
            self.assertIs(less(one, other), value(one) < value(other))
            self.told(greater_of(one, other), pair(max(value(one), value(other))))

    def test_alike(self):
        for one in FRACTIONS:
            self.assertIs(less(one, (one[0], one[1])), False)
            self.told(greater_of(one, (one[0], one[1])), one)

    def test_neighbours(self):
        for ten in [10, 10 ** 17, 10 ** 60, 10 ** 5000]:
            for low, high in [((ten - 1, ten), (ten, ten + 1)), ((1, ten + 1), (1, ten)),
                              ((-1, ten), (-1, ten + 1)), ((-1, ten), (0, 1)), ((0, 1), (1, ten)),
                              ((ten, 1), (ten * ten + 1, ten)), ((-ten - 1, ten), (-1, 1))]:
                self.assertIs(less(low, high), True)
                self.assertIs(less(high, low), False)
                self.told(greater_of(low, high), high)
                self.told(greater_of(high, low), high)


class InOrder(unittest.TestCase):
    def test_none_and_one(self):
        self.assertEqual(in_order([]), [])
        self.assertEqual(in_order([(-1, 2)]), [(-1, 2)])

    def test_every_order_of_some(self):
        rising = [(-3, 2), (-1, 1), (-1, 3), (0, 1), (1, 3), (1, 2)]
        for some in permutations(rising):
            self.assertEqual(in_order(list(some)), rising)

    def test_alike_ones_each(self):
        rising = [(-1, 2), (-1, 2), (0, 1), (2, 3), (2, 3), (2, 3)]
        for some in permutations(rising):
            self.assertEqual(in_order(list(some)), rising)
        self.assertEqual(in_order([(1, 7)] * 9), [(1, 7)] * 9)

    def test_many(self):
        some = [made(number * 37 % 101 - 50, number % 12 + 1) for number in range(300)]
        self.assertEqual(in_order(some), [pair(each) for each in sorted([value(each) for each in some])])

    def test_neighbours_of_many_figures(self):
        ten = 10 ** 5000
        rising = [(-1, ten), (-1, ten + 1), (0, 1), (1, ten + 1), (1, ten)]
        for some in permutations(rising):
            self.assertTrue(in_order(list(some)) == rising)

    def test_what_is_handed_in_stays(self):
        for some in [[], [(1, 2)], [(2, 1), (1, 1)], [(3, 1), (1, 2), (3, 1), (-1, 1)]]:
            kept = list(some)
            told = in_order(some)
            self.assertEqual(some, kept)
            self.assertIs(type(told), list)
            self.assertIsNot(told, some)

    def test_the_list_is_the_askers_own(self):
        for some in [[], [(1, 2)], [(2, 1), (1, 1)], [(1, 1), (2, 1)]]:
            kept = list(some)
            told = in_order(some)
            again = in_order(some)
            self.assertEqual(told, again)
            self.assertIsNot(told, again)
            expected = list(told)
            told.append((9, 1))
            self.assertEqual(some, kept)
            self.assertEqual(again, expected)
            self.assertEqual(in_order(some), expected)
            some.append((0, 1))
            self.assertEqual(again, expected)


class Written(unittest.TestCase):
    def test_by_hand(self):
        for fraction, text in [((7, 2), "7/2"), ((3, 1), "3"), ((-1, 2), "-1/2"), ((0, 1), "0"), ((-3, 1), "-3"),
                               ((1, 10), "1/10"), ((-20, 3), "-20/3"), ((1, 1), "1"), ((-1, 1), "-1")]:
            self.assertEqual(frac_text(fraction), text)
            self.assertEqual(frac_of(text), fraction)

    def test_written_and_read(self):
        for fraction in [made(above, beneath) for above in range(-40, 41) for beneath in range(1, 41)]:
            answer = frac_of(frac_text(fraction))
            self.assertEqual(answer, fraction)
            self.assertIs(type(answer), tuple)

    def test_read_and_written(self):
        for length in range(0, 5):
            for signs in product("-/012", repeat=length):
                text = "".join(signs)
                fraction = frac_of(text)
                if fraction is not None:
                    self.assertEqual(frac_text(fraction), text)
                    self.assertEqual(made(fraction[0], fraction[1]), fraction)

    def test_sixty_figures(self):
        low = "9" * 59 + "8"
        for text in [SIXTY, "-" + SIXTY, SIXTY + "/" + low, "-" + low + "/" + SIXTY, "1/" + SIXTY]:
            self.assertEqual(frac_text(frac_of(text)), text)
        self.assertEqual(frac_of("-" + SIXTY), (1 - 10 ** 60, 1))

    def test_sixty_one_figures(self):
        one = "1" + "0" * 60
        for text in [one, "-" + one, one + "/3", "-" + one + "/3", "1/" + one, "-1/" + one, one + "/" + one]:
            self.assertIsNone(frac_of(text), text)

    def test_more_figures_than_python_writes(self):
        self.assertTrue(frac_text((-(10 ** 5000), 3)) == "-1" + "0" * 5000 + "/3")
        self.assertTrue(frac_text((10 ** 5000, 1)) == "1" + "0" * 5000)
        self.assertTrue(frac_text((1, 10 ** 5000)) == "1/1" + "0" * 5000)


class NotWritten(unittest.TestCase):
    def refused(self, texts):
        for text in texts:
            self.assertIsNone(frac_of(text), text)

    def test_empty_and_parts(self):
        self.refused(["", "-", "/", "-/", "/2", "-/2", "1/", "-1/", "//"])

    def test_a_nought_ahead(self):
        self.refused(["00", "01", "-01", "01/2", "-01/2", "1/02", "-1/02", "00/3", "1/00"])

    def test_signs(self):
        self.refused(["+1", "+1/2", "1/+2", "-+1", "+-1", "+0", "--1", "--1/2", "1/-2", "-1/-2", "1-", "1-/2", "1/2-"])

    def test_nought_below_nought(self):
        self.refused(["-0", "-0/1", "-0/2", "--0"])

    def test_two_strokes(self):
        self.refused(["1/2/3", "1//2", "/1/2", "1/2/", "-1/2/3"])

    def test_bottoms(self):
        self.refused(["1/1", "-1/1", "0/1", "7/1", "1/0", "-1/0", "0/0", "5/0"])

    def test_not_in_lowest_terms(self):
        self.refused(["2/4", "-2/4", "4/2", "-4/2", "6/3", "0/2", "0/7", "10/15", "3/3", SIXTY + "/3"])

    def test_another_sign_at_any_place(self):
        for text in ["7", "-7", "7/2", "-1/2", "0", "13/12"]:
            for sign in [" ", "\t", "\n", "\r", "+", ".", "_", "a", "~", ",", "\\", "\u00b2", "\u0663"]:
                self.refused([text[:place] + sign + text[place:] for place in range(len(text) + 1)])


class Kept(unittest.TestCase):
    def test_the_same_each_time(self):
        for one, other in [((1, 2), (2, 3)), ((-1, 2), (1, 2)), ((3, 1), (-7, 5))]:
            for asked in [plus, minus, times, over, less, greater_of]:
                self.assertEqual(asked(one, other), asked(one, other))
        for text in ["-7/2", "2/4", ""]:
            self.assertEqual(frac_of(text), frac_of(text))


if __name__ == "__main__":
    unittest.main()
