"""Roads: open pieces and bridges, the rounds of bridges and the hours in which they are shut."""


class Open:
    def __init__(self, length):
        self.length = length


class Bridge:
    def __init__(self, name, length, bears, wide, most):
        self.name = name
        self.length = length
        self.bears = bears
        self.wide = wide
        self.most = most


class Road:
    def __init__(self, pieces, rounds, shuts):
        self.pieces = list(pieces)
        self.rounds = list(rounds)
        self.shuts = list(shuts)


def bridges_of(road):
    return [piece for piece in road.pieces if isinstance(piece, Bridge)]


def bridge_of(road, name):
    return [bridge for bridge in bridges_of(road) if bridge.name == name][0]


def round_of(road, name):
    for told in road.rounds:
        if told[0] == name:
            return told[1]
    return None


def shuts_of(road, name):
    return [(told[1], told[2]) for told in road.shuts if told[0] == name]
