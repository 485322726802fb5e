"""Carts and their wheels: where the wheels stand, what they weigh, and which bridges they fit."""


class Cart:
    def __init__(self, name, speed, wheels):
        self.name = name
        self.speed = speed
        self.wheels = list(wheels)


def offsets_of(wheels):
    offsets = []
    for wheel in wheels:
        offsets.append(offsets[-1] + wheel[0] if offsets else 0)
    return offsets


def span_of(wheels):
    # The first one's gap counts nothing, as it has no wheel ahead.
    return sum([wheel[0] for wheel in wheels[1:]])


def greatest_sum(weights, offsets, width):
    # No weight is below 0, so of the wheels close behind a first one all are taken.
    sums = []
    for first, offset in enumerate(offsets):
        close = [weights[place] for place in range(first, len(offsets)) if offsets[place] - offset < width]
        sums.append(sum(close))
    return max(sums, default=0)


def heaviest(wheels, width):
    return greatest_sum([wheel[2] for wheel in wheels], offsets_of(wheels), width)


def lightest(wheels, width):
    return greatest_sum([wheel[1] for wheel in wheels], offsets_of(wheels), width)


def joined(carts):
    wheels = []
    for cart in carts:
        wheels.extend(cart.wheels)
    return Cart(carts[0].name, carts[0].speed, wheels)


def fits(bridge, wheels):
    return heaviest(wheels, bridge.length) <= bridge.bears and heaviest(wheels, bridge.wide) <= bridge.most
