"""Logs as texts, and the report on a day's text."""

from ballastway.burden import verdict, worst
from ballastway.days import run
from ballastway.daytext import day_of
from ballastway.errors import BadRow
from ballastway.figures import is_word, number_of
from ballastway.fractions import frac_of, frac_text, less, whole
from ballastway.roads import bridges_of
from ballastway.rows import row_of, rows_of, words_at

WITHOUT_BRIDGE = ("start", "end")
WITH_BRIDGE = ("come", "on", "off")


def log_row(told):
    parts = [frac_text(told[0]), told[1], told[2] + 1]
    if told[1] in WITH_BRIDGE:
        parts.append(told[3])
    return row_of(parts)


def log_text(log):
    return "\n".join([log_row(told) for told in log])


def bridge_told(words):
    # The empty text is for words with no bridge; None, apart from that, is for what is not as told.
    if len(words) == 3 and words[1] in WITHOUT_BRIDGE:
        return ""
    if len(words) == 4 and words[1] in WITH_BRIDGE and is_word(words[3]):
        return words[3]
    return None


def heard_row(words, number):
    name = bridge_told(words)
    if name is None:
        raise BadRow(number)
    moment = frac_of(words[0])
    cart = number_of(words[2])
    if moment is None or less(moment, whole(0)) or cart is None or cart < 1:
        raise BadRow(number)
    return (moment, words[1], cart - 1, name)


def heard(text):
    if text == "":
        return []
    rows = rows_of(text)
    return [heard_row(words_at(rows, place), place + 1) for place in range(len(rows))]


def bridge_row(road, crossings, name):
    by_highs = worst(road, crossings, name)
    if by_highs is None:
        return row_of([name, "empty"])
    told = verdict(road, crossings, name)
    return row_of([name, told[0], frac_text(told[1]), by_highs[1], by_highs[2]])


def report(text):
    day = day_of(text)
    trips = run(day)
    rows = [row_of([trip.cart.name, "ended", frac_text(trip.ended)]) for trip in trips]
    crossings = []
    for trip in trips:
        crossings.extend(trip.crossings)
    rows.extend([bridge_row(day.road, crossings, bridge.name) for bridge in bridges_of(day.road)])
    return "\n".join(rows)
