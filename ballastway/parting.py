"""Which ways a row of wheels may take, and how a load is parted where it fits none of them whole."""

from ballastway.errors import Blocked, NoWay
from ballastway.loads import Cart, fits
from ballastway.ways import legs_of, ways_of


def bridges_along(road, way):
    return [leg[0] for leg in legs_of(road, way)]


def fits_each(bridges, wheels):
    return all([fits(bridge, wheels) for bridge in bridges])


def ways_for(road, wheels):
    return [way for way in ways_of(road) if fits_each(bridges_along(road, way), wheels)]


def some_ways_for(road, cart):
    ways = ways_for(road, cart.wheels)
    if not ways:
        raise NoWay("a cart fits no way of the road")
    return ways


def refuse_wheels(bridges, wheels):
    for place, wheel in enumerate(wheels):
        for bridge in bridges:
            if not fits(bridge, [wheel]):
                raise Blocked(bridge.name, place)


def run_end(bridges, wheels, first):
    end = first + 1
    while end < len(wheels) and fits_each(bridges, wheels[first:end + 1]):
        end = end + 1
    return end


def parted(road, cart, way):
    bridges = bridges_along(road, way)
    refuse_wheels(bridges, cart.wheels)
    carts = []
    first = 0
    # Each run within one that fits fits too, so the longest runs from the front on make the fewest carts.
    while first < len(cart.wheels):
        end = run_end(bridges, cart.wheels, first)
        carts.append(Cart(cart.name, cart.speed, cart.wheels[first:end]))
        first = end
    return carts
