"""Roads read from texts and written as texts."""

from ballastway.bounds import BURDEN, LEAST_OPEN, LENGTH, MINUTE, MOST_BRIDGES, WIDE
from ballastway.errors import BadRow, NoBridge, TooNear, Twice
from ballastway.roads import Bridge, Open, Road
from ballastway.rows import begins_with, named_row, plain_row, row_of, rows_of, words_at


def names_in(pieces):
    return [piece.name for piece in pieces if isinstance(piece, Bridge)]


def read_open(rows, place):
    numbers = plain_row(words_at(rows, place), "open", (LENGTH,))
    if numbers is None:
        raise BadRow(place + 1)
    if numbers[0] < LEAST_OPEN:
        raise TooNear(place + 1)
    return Open(numbers[0])


def read_bridge(rows, place, names):
    told = named_row(words_at(rows, place), "bridge", (LENGTH, BURDEN, WIDE, BURDEN))
    if told is None or len(names) >= MOST_BRIDGES:
        raise BadRow(place + 1)
    if told[0] in names:
        raise Twice(place + 1)
    numbers = told[1]
    return Bridge(told[0], numbers[0], numbers[1], numbers[2], numbers[3])


def read_pieces(rows):
    # Each piece has a row, so the number of pieces is the place of the row that is next.
    pieces = [read_open(rows, 0)]
    while len(pieces) == 1 or begins_with(words_at(rows, len(pieces)), ("bridge",)):
        pieces.append(read_bridge(rows, len(pieces), names_in(pieces)))
        pieces.append(read_open(rows, len(pieces)))
    return pieces


def read_round(rows, place, names, rounds):
    told = named_row(words_at(rows, place), "round", (LENGTH,))
    if told is None:
        raise BadRow(place + 1)
    if told[0] not in names:
        raise NoBridge(place + 1)
    if told[0] in [each[0] for each in rounds]:
        raise Twice(place + 1)
    return (told[0], told[1][0])


def read_shut(rows, place, names):
    told = named_row(words_at(rows, place), "shut", (MINUTE, MINUTE))
    if told is None or told[1][0] >= told[1][1]:
        raise BadRow(place + 1)
    if told[0] not in names:
        raise NoBridge(place + 1)
    return (told[0], told[1][0], told[1][1])


def road_from(rows):
    pieces = read_pieces(rows)
    names = names_in(pieces)
    rounds = []
    shuts = []
    place = len(pieces)
    while begins_with(words_at(rows, place), ("round", "shut")):
        if begins_with(words_at(rows, place), ("round",)):
            rounds.append(read_round(rows, place, names, rounds))
        else:
            shuts.append(read_shut(rows, place, names))
        place = place + 1
    return (Road(pieces, rounds, shuts), place)


def road_of(text):
    rows = rows_of(text)
    told = road_from(rows)
    if told[1] < len(rows):
        raise BadRow(told[1] + 1)
    return told[0]


def piece_row(piece):
    if isinstance(piece, Open):
        return row_of(["open", piece.length])
    return row_of(["bridge", piece.name, piece.length, piece.bears, piece.wide, piece.most])


def road_rows(road):
    pieces = [piece_row(piece) for piece in road.pieces]
    rounds = [row_of(["round", told[0], told[1]]) for told in road.rounds]
    shuts = [row_of(["shut", told[0], told[1], told[2]]) for told in road.shuts]
    return pieces + rounds + shuts


def road_text(road):
    return "\n".join(road_rows(road))
