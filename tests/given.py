"""What several tests are given: roads and carts as plain values, and drawn ones from a seed."""

import random

from ballastway.loads import Cart
from ballastway.roads import Bridge, Open, Road

NAMES = ["a", "aa", "ab", "aaa", "b", "ba"]


def bridge_fields(bridge):
    return (bridge.name, bridge.length, bridge.bears, bridge.wide, bridge.most)


def piece_fields(piece):
    if isinstance(piece, Open):
        return (piece.length,)
    return bridge_fields(piece)


def road_fields(road):
    return ([piece_fields(piece) for piece in road.pieces], road.rounds, road.shuts)


def cart_fields(cart):
    return (cart.name, cart.speed, cart.wheels)


def road_with(bridges, rounds=(), shuts=(), opens=None):
    """A road over bridges, each told as a tuple of its fields; open pieces are 200 long where none are told."""
    opens = opens or [200] * (len(bridges) + 1)
    pieces = [Open(opens[0])]
    for fields, length in zip(bridges, opens[1:]):
        pieces.extend([Bridge(*fields), Open(length)])
    return Road(pieces, list(rounds), list(shuts))


def drawn_wheels(draw, most=8, high=40):
    wheels = []
    for _ in range(draw.randint(1, most)):
        low = draw.randint(0, high)
        wheels.append((draw.randint(1, 25), low, draw.randint(low, high)))
    return wheels


def drawn_cart(draw, name="load", most=8, high=40, speeds=(1, 12)):
    return Cart(name, draw.randint(*speeds), drawn_wheels(draw, most, high))


def drawn_road(draw, bridges=None, rounds=None, bears=(30, 120), shuts=3, lengths=(1, 60)):
    """A road on which most drawn carts fit some bridges and not all; rounds and shuts in a drawn order."""
    names = draw.sample(NAMES, bridges or draw.randint(1, 3))
    told = [(name, draw.randint(*lengths), draw.randint(*bears), draw.randint(1, 30), draw.randint(20, bears[1]))
            for name in names]
    opens = [draw.randint(200, 260) for _ in range(len(names) + 1)]
    round_names = draw.sample(names, draw.randint(0, len(names)) if rounds is None else rounds)
    shut = []
    for _ in range(draw.randint(0, shuts)):
        begin = draw.randint(0, 120)
        shut.append((draw.choice(names), begin, begin + draw.randint(1, 30)))
    return road_with(told, [(name, draw.randint(1, 200)) for name in round_names], shut, opens)


def busy_road(draw, bridges, rounds, shuts=2):
    """A road with long bridges that bear little: drawn carts of nearly one speed wait for one another there."""
    return drawn_road(draw, bridges, rounds, (60, 90), shuts, (80, 300))


def busy_cart(draw, name="load", most=2):
    return drawn_cart(draw, name, most, 40, (3, 5))


def draws(seed, number):
    """Some sources of drawn numbers, each told by its seed, so that a fault can be found again."""
    return [random.Random(f"{seed} {each}") for each in range(number)]
