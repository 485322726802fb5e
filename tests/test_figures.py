"""Points 3 and 5: numbers and words as texts write them."""

import unittest

from ballastway.figures import figures_of, is_word, number_of

SIXTY = "9" * 60
SIGNS = [chr(code) for code in range(32, 127)] + ["\n", "\t"]
OTHER_SIGNS = ["\r", "\0", "\x0b", "\x0c", "\u00e4", "\u00b2", "\u0663", "\uff11", "\u00a0"]


def with_sign_at_each_place(text, sign):
    put_in = [text[:place] + sign + text[place:] for place in range(len(text) + 1)]
    put_for = [text[:place] + sign + text[place + 1:] for place in range(len(text))]
    return put_in + put_for


class Numbers(unittest.TestCase):
    def told(self, expected, *asked):
        answer = number_of(*asked)
        self.assertEqual(answer, expected, asked)
        self.assertIs(type(answer), type(expected))

    def test_numbers(self):
        for number in list(range(0, 1200)) + [10 ** 20, 1234567890]:
            self.told(number, str(number))

    def test_each_figure_at_each_length(self):
        for length in range(1, 61):
            for figure in "123456789":
                self.told(int(figure * length), figure * length)
            self.told(10 ** (length - 1), "1" + "0" * (length - 1))

    def test_sixty_figures_and_sixty_one(self):
        self.told(10 ** 60 - 1, SIXTY)
        self.told(10 ** 59, "1" + "0" * 59)
        self.told(None, SIXTY + "9")
        self.told(None, "1" + "0" * 60)
        self.told(None, "1" * 100000)

    def test_a_nought_ahead(self):
        self.told(0, "0")
        for text in ["00", "01", "07", "010", "0" * 60, "0" + "9" * 59, "000"]:
            self.told(None, text)

    def test_the_empty_text(self):
        self.told(None, "")
        self.told(None, "", None)
        self.told(None, "", 5)

    def test_another_sign_at_any_place(self):
        for text in ["7", "0", "12", "345"]:
            for sign in [sign for sign in SIGNS + OTHER_SIGNS if sign not in "0123456789"]:
                for wrong in with_sign_at_each_place(text, sign):
                    self.told(None, wrong)

    def test_another_sign_in_a_long_text(self):
        for sign in ["+", "-", " ", "\t", "\n", "_", ".", "e", "x", "/"]:
            for wrong in with_sign_at_each_place("8" * 59, sign):
                self.told(None, wrong)

    def test_most_left_out_or_none(self):
        for text in ["0", "1", "999", SIXTY]:
            self.told(int(text), text)
            self.told(int(text), text, None)
            self.assertEqual(number_of(text, most=None), int(text))

    def test_most_nought(self):
        self.told(0, "0", 0)
        self.told(None, "1", 0)
        self.told(None, SIXTY, 0)

    def test_most_around_the_number(self):
        for text in ["1", "2", "10", "200", "1000000", SIXTY]:
            number = int(text)
            self.told(number, text, number)
            self.told(None, text, number - 1)
            self.told(number, text, number + 1)
            self.assertEqual(number_of(text, most=number), number)
            self.assertIsNone(number_of(text, most=number - 1))

    def test_most_does_not_mend_a_wrong_text(self):
        for text in ["", "01", "00", "+1", " 1", "1\n", SIXTY + "1"]:
            self.told(None, text, 10 ** 70)


class Words(unittest.TestCase):
    def test_lengths(self):
        for length in range(0, 30):
            self.assertIs(is_word("abcdefghijklmnopqrstuvwxyzabcd"[:length]), 1 <= length <= 12, length)

    def test_each_letter(self):
        for letter in "abcdefghijklmnopqrstuvwxyz":
            self.assertIs(is_word(letter), True)
            self.assertIs(is_word(letter * 12), True)
            self.assertIs(is_word(letter * 13), False)

    def test_another_sign_at_any_place(self):
        for text in ["a", "bridge", "abcdefghijkl"]:
            for sign in [sign for sign in SIGNS + OTHER_SIGNS if not "a" <= sign <= "z"]:
                for wrong in with_sign_at_each_place(text, sign):
                    self.assertIs(is_word(wrong), False, wrong)


class Written(unittest.TestCase):
    def test_as_python_writes_them(self):
        around = [10 ** power + step for power in range(0, 200, 20) for step in [-1, 0, 1, 60]]
        for number in around + [0, 7, 10 ** 120 * 5, 12 * 10 ** 300 + 34]:
            self.assertEqual(figures_of(number), str(number))

    def test_more_figures_than_python_writes(self):
        self.assertEqual(figures_of(10 ** 6000), "1" + "0" * 6000)
        self.assertEqual(figures_of(10 ** 6000 - 1), "9" * 6000)
        self.assertEqual(figures_of(10 ** 6000 + 12), "1" + "0" * 5998 + "12")


if __name__ == "__main__":
    unittest.main()
