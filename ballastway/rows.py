"""Rows of texts: their words, and the names and numbers that these write."""

from ballastway.figures import is_word, number_of


def rows_of(text):
    return text.split("\n")


def words_at(rows, place):
    # A missing row has no words: so it is refused like any other row that is not as told.
    if place >= len(rows):
        return []
    return rows[place].split(" ")


def begins_with(words, kinds):
    return len(words) > 0 and words[0] in kinds


def number_within(text, bound):
    number = number_of(text, bound[1])
    if number is None or number < bound[0]:
        return None
    return number


def numbers_of(texts, bounds):
    if len(texts) != len(bounds):
        return None
    numbers = [number_within(text, bound) for text, bound in zip(texts, bounds)]
    if None in numbers:
        return None
    return numbers


def plain_row(words, kind, bounds):
    # Answers the numbers of a row `KIND NUMBER ..`; None lets the reader choose the refusal.
    if not begins_with(words, (kind,)):
        return None
    return numbers_of(words[1:], bounds)


def named_row(words, kind, bounds):
    # Answers the pair (name, numbers) of a row `KIND NAME NUMBER ..`; None lets the reader choose the refusal.
    if not begins_with(words, (kind,)) or len(words) < 2 or not is_word(words[1]):
        return None
    numbers = numbers_of(words[2:], bounds)
    if numbers is None:
        return None
    return (words[1], numbers)


def row_of(parts):
    return " ".join([str(part) for part in parts])
