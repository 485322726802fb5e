"""Crossings: tuples (name of a bridge, entry, speed, wheels), and when their wheels are on the bridge."""

from ballastway.fractions import made, plus
from ballastway.loads import offsets_of
from ballastway.roads import bridge_of


def driven(moment, distance, speed):
    # Wheels behind the first, bridges farther on and ends of ways are all later by what is driven until there.
    return plus(moment, made(distance, speed))


def times_on(road, crossing):
    length = bridge_of(road, crossing[0]).length
    speed = crossing[2]
    times_told = []
    for offset in offsets_of(crossing[3]):
        on = driven(crossing[1], offset, speed)
        times_told.append((on, driven(on, length, speed)))
    return times_told


def clear_at(road, crossing):
    return times_on(road, crossing)[-1][1]
