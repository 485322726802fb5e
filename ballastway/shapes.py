"""Shapes of a day: in which order carts are let on, and which ways they take."""

from ballastway.fractions import greater_of, whole
from ballastway.parting import some_ways_for
from ballastway.watch import watched
from ballastway.ways import each_choice


def orders_of(number):
    orders = [()]
    while len(orders[0]) < number:
        longer = []
        for order in orders:
            longer.extend([order + (place,) for place in range(number) if place not in order])
        orders = longer
    return orders


def shapes_of(road, carts):
    ways = [some_ways_for(road, cart) for cart in carts]
    shapes = []
    for order in orders_of(len(carts)):
        shapes.extend([(order, chosen) for chosen in each_choice([ways[place] for place in order])])
    return shapes


def day_of_shape(road, carts, shape):
    sends = [(carts[place], way, whole(0)) for place, way in zip(shape[0], shape[1])]
    return watched(road, sends)


def end_of(trips):
    end = trips[0].ended
    for trip in trips:
        end = greater_of(end, trip.ended)
    return end
