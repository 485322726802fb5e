"""Numbers and words as texts write them."""

FIGURES = "0123456789"
LETTERS = "abcdefghijklmnopqrstuvwxyz"
MOST_FIGURES = 60
MOST_LETTERS = 12


def is_row_of(text, signs, most):
    # The length is asked first, so that a very long text is not walked.
    if len(text) < 1 or len(text) > most:
        return False
    return all([sign in signs for sign in text])


def number_of(text, most=None):
    if not is_row_of(text, FIGURES, MOST_FIGURES):
        return None
    if text.startswith("0") and text != "0":
        return None
    number = int(text)
    if most is not None and number > most:
        return None
    return number


def is_word(text):
    return is_row_of(text, LETTERS, MOST_LETTERS)


def figures_of(number):
    # Written piece by piece, as Python's str refuses a number of some thousand figures.
    piece = 10 ** 60
    pieces = []
    while number >= piece:
        pieces.append(str(number % piece).zfill(60))
        number = number // piece
    pieces.append(str(number))
    return "".join(reversed(pieces))
