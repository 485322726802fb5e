"""Loads read from texts and written as texts."""

from ballastway.bounds import GAP, MOST_LOADS, MOST_SPAN, MOST_WHEELS, SPEED, WEIGHT
from ballastway.errors import BadRow, TooLong, Twice
from ballastway.loads import Cart, span_of
from ballastway.rows import begins_with, named_row, plain_row, row_of, rows_of, words_at


def read_head(words, number, loads):
    told = named_row(words, "load", (SPEED,))
    if told is None or len(loads) >= MOST_LOADS:
        raise BadRow(number)
    if told[0] in [load.name for load in loads]:
        raise Twice(number)
    return told


def read_wheel(words, number, wheels):
    numbers = plain_row(words, "wheel", (GAP, WEIGHT, WEIGHT))
    if numbers is None or numbers[1] > numbers[2] or len(wheels) >= MOST_WHEELS:
        raise BadRow(number)
    wheel = tuple(numbers)
    if span_of(wheels + [wheel]) > MOST_SPAN:
        raise TooLong(number)
    return wheel


def read_wheels(rows, place, first):
    # A load has a wheel at the least, so the first row is read as one whatever it is.
    wheels = []
    while not wheels or begins_with(words_at(rows, place), ("wheel",)):
        wheels.append(read_wheel(words_at(rows, place), first + place, wheels))
        place = place + 1
    return wheels


def loads_from(rows, first):
    loads = []
    place = 0
    # Each load takes its wheels: a wheel's row that is met here is ahead of any load, and no head of one.
    while begins_with(words_at(rows, place), ("load", "wheel")):
        head = read_head(words_at(rows, place), first + place, loads)
        wheels = read_wheels(rows, place + 1, first)
        loads.append(Cart(head[0], head[1][0], wheels))
        place = place + 1 + len(wheels)
    return (loads, place)


def loads_of(text):
    if text == "":
        return []
    rows = rows_of(text)
    told = loads_from(rows, 1)
    if told[1] < len(rows):
        raise BadRow(told[1] + 1)
    return told[0]


def load_rows(cart):
    wheels = [row_of(["wheel", wheel[0], wheel[1], wheel[2]]) for wheel in cart.wheels]
    return [row_of(["load", cart.name, cart.speed])] + wheels


def loads_text(carts):
    rows = []
    for cart in carts:
        rows.extend(load_rows(cart))
    return "\n".join(rows)
