"""Ways along a road: for each bridge, whether the way leads over it or takes its round."""

from ballastway.roads import Bridge, Open, bridges_of, round_of


def each_choice(choices):
    # The last choice changes fastest: so what stands first in a choice stands ahead for earlier ones first.
    told = [()]
    for some in choices:
        longer = []
        for ahead in told:
            longer.extend([ahead + (one,) for one in some])
        told = longer
    return told


def ways_past(road, bridge):
    if round_of(road, bridge.name) is None:
        return (True,)
    return (True, False)


def ways_of(road):
    return each_choice([ways_past(road, bridge) for bridge in bridges_of(road)])


def round_way(road):
    return tuple([round_of(road, bridge.name) is None for bridge in bridges_of(road)])


def over_by_name(road, way):
    return dict(zip([bridge.name for bridge in bridges_of(road)], way))


def length_along(road, piece, over):
    if isinstance(piece, Open) or over[piece.name]:
        return piece.length
    return round_of(road, piece.name)


def legs_of(road, way):
    over = over_by_name(road, way)
    legs = []
    place = 0
    for piece in road.pieces:
        if isinstance(piece, Bridge) and over[piece.name]:
            legs.append((piece, place))
        place = place + length_along(road, piece, over)
    return legs


def length_of(road, way):
    over = over_by_name(road, way)
    return sum([length_along(road, piece, over) for piece in road.pieces])
