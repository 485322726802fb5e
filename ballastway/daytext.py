"""Days: a road, loads and when they are sent; read from texts and written as texts."""

from ballastway.bounds import MINUTE
from ballastway.errors import BadRow, NoBridge, NoLoad, Twice
from ballastway.figures import is_word
from ballastway.loads import Cart
from ballastway.loadtext import load_rows, loads_from
from ballastway.roads import Road, bridges_of, round_of
from ballastway.roadtext import road_from, road_rows
from ballastway.rows import named_row, row_of, rows_of, words_at


class Day:
    def __init__(self, road, loads, sends):
        # The lists within the road and the loads are copied too: nothing done to them later changes the day.
        self.road = Road(road.pieces, road.rounds, road.shuts)
        self.loads = [Cart(load.name, load.speed, load.wheels) for load in loads]
        self.sends = list(sends)


def named_rounds(words):
    # No words at all are no rounds; None, apart from that, is for words that are not as told.
    if not words:
        return []
    if words[0] != "round" or len(words) < 2 or not all([is_word(word) for word in words[1:]]):
        return None
    return words[1:]


def stand_in_order(names, rounds):
    # Names that are no bridge's are refused later, and with another class: they have no place here.
    places = [names.index(name) for name in rounds if name in names]
    return len(set(rounds)) == len(rounds) and places == sorted(places)


def read_send(words, number, day):
    head = named_row(words[:3], "send", (MINUTE,))
    rounds = named_rounds(words[3:])
    names = [bridge.name for bridge in bridges_of(day.road)]
    if head is None or rounds is None or not stand_in_order(names, rounds):
        raise BadRow(number)
    loads = [load.name for load in day.loads]
    if head[0] not in loads:
        raise NoLoad(number)
    place = loads.index(head[0])
    if place in [send[0] for send in day.sends]:
        raise Twice(number)
    if None in [round_of(day.road, name) for name in rounds]:
        raise NoBridge(number)
    return (place, head[1][0], tuple([name not in rounds for name in names]))


def day_of(text):
    rows = rows_of(text)
    road_told = road_from(rows)
    loads_told = loads_from(rows[road_told[1]:], road_told[1] + 1)
    day = Day(road_told[0], loads_told[0], [])
    for place in range(road_told[1] + loads_told[1], len(rows)):
        day.sends.append(read_send(words_at(rows, place), place + 1, day))
    return day


def send_row(day, send):
    parts = ["send", day.loads[send[0]].name, send[1]]
    rounds = [bridge.name for bridge, over in zip(bridges_of(day.road), send[2]) if not over]
    if rounds:
        parts = parts + ["round"] + rounds
    return row_of(parts)


def day_text(day):
    rows = road_rows(day.road)
    for load in day.loads:
        rows.extend(load_rows(load))
    rows.extend([send_row(day, send) for send in day.sends])
    return "\n".join(rows)
