"""Papers: why no watched day of some carts can end sooner than some moment."""

from ballastway.fractions import in_order, less, made, plus, whole
from ballastway.parting import some_ways_for
from ballastway.roads import bridges_of, round_of
from ballastway.watch import trip_of
from ballastway.ways import legs_of, length_of


def alone_time(road, cart):
    ends = [trip_of(road, [], cart, way, whole(0)).ended for way in some_ways_for(road, cart)]
    return in_order(ends)[0]


def place_on(road, way, name):
    return [leg[1] for leg in legs_of(road, way) if leg[0].name == name][0]


def least_times(road, carts, bridge):
    # The least time to the near end and the least one from the far end may be of other carts and other ways.
    near = []
    far = []
    for cart in carts:
        for way in some_ways_for(road, cart):
            place = place_on(road, way, bridge.name)
            near.append(made(place, cart.speed))
            far.append(made(length_of(road, way) - place - bridge.length, cart.speed))
    return (in_order(near)[0], in_order(far)[0])


def time_on_bridge(carts, bridge):
    # What all wheels weigh for as long as each is on, by what the bridge bears: it can't be done in less.
    total = whole(0)
    for cart in carts:
        highs = sum([wheel[2] for wheel in cart.wheels])
        total = plus(total, made(highs * bridge.length, cart.speed * bridge.bears))
    return total


def bridge_bound(road, carts, bridge):
    times_told = least_times(road, carts, bridge)
    return plus(plus(times_told[0], time_on_bridge(carts, bridge)), times_told[1])


def paper_of(road, carts):
    papers = [("alone", place, alone_time(road, cart)) for place, cart in enumerate(carts)]
    for bridge in bridges_of(road):
        if round_of(road, bridge.name) is None:
            papers.append(("bridge", bridge.name, bridge_bound(road, carts, bridge)))
    greatest = papers[0]
    for paper in papers:
        # Only a greater one takes the place, so of alike ones the first stays.
        if less(greatest[2], paper[2]):
            greatest = paper
    return greatest
