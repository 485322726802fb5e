"""What a bridge bears at moments: sums of the wheels that are on it, the worst ones, and the verdict."""

from ballastway.crossing import times_on
from ballastway.fractions import in_order, less
from ballastway.roads import bridge_of


def stays_of(road, crossings, name):
    # Tuples (on, off, low, high), reckoned once: every sum asks for the times of all wheels.
    stays = []
    for crossing in crossings:
        if crossing[0] == name:
            for times, wheel in zip(times_on(road, crossing), crossing[3]):
                stays.append((times[0], times[1], wheel[1], wheel[2]))
    return stays


def sums_at(stays, moment):
    # A wheel is on from its moment on, and off at the later one.
    there = [stay for stay in stays if not less(moment, stay[0]) and less(moment, stay[1])]
    return (sum([stay[2] for stay in there]), sum([stay[3] for stay in there]))


def moments_in(stays):
    # Fractions in lowest terms are alike where their pairs are, so a dict keeps each once.
    moments = {}
    for stay in stays:
        moments[stay[0]] = True
    return in_order(list(moments))


def on_bridge(road, crossings, name, moment):
    return sums_at(stays_of(road, crossings, name), moment)


def moments_of(road, crossings, name):
    return moments_in(stays_of(road, crossings, name))


def first_greatest(stays, spot):
    greatest = None
    for moment in moments_in(stays):
        sums = sums_at(stays, moment)
        told = (moment, sums[0], sums[1])
        if greatest is None or told[spot] > greatest[spot]:
            greatest = told
    return greatest


def worst(road, crossings, name):
    return first_greatest(stays_of(road, crossings, name), 2)


def worst_low(road, crossings, name):
    return first_greatest(stays_of(road, crossings, name), 1)


def verdict(road, crossings, name):
    bears = bridge_of(road, name).bears
    by_highs = worst(road, crossings, name)
    by_lows = worst_low(road, crossings, name)
    if by_highs is None:
        return ("safe", None)
    if by_lows[1] > bears:
        return ("over", by_lows[0])
    if by_highs[2] > bears:
        return ("may", by_highs[0])
    return ("safe", by_highs[0])
