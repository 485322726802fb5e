"""The watch: it lets carts onto the bridges one by one, each at the least moment at which nothing is broken."""

from ballastway.burden import stays_of, verdict
from ballastway.crossing import driven, times_on
from ballastway.errors import NoWay
from ballastway.fractions import common_beneath, less, made, parts_in, whole
from ballastway.loads import span_of
from ballastway.parting import bridges_along, fits_each
from ballastway.roads import bridge_of, shuts_of
from ballastway.ways import legs_of, length_of


class Trip:
    def __init__(self, cart, way, start, crossings, ended):
        self.cart = cart
        self.way = way
        self.start = start
        # The wheels are copied too: what is done to a cart's wheels later changes no crossing.
        self.crossings = [(each[0], each[1], each[2], list(each[3])) for each in crossings]
        self.ended = ended


def meets_shut(times, shut):
    return less(times[0], whole(shut[1])) and less(whole(shut[0]), times[1])


def may_enter(road, crossings, crossing):
    name = crossing[0]
    if verdict(road, crossings + [crossing], name)[0] != "safe":
        return False
    for times in times_on(road, crossing):
        if any([meets_shut(times, shut) for shut in shuts_of(road, name)]):
            return False
    return True


def whole_stays(stays, unit):
    # Moments as whole numbers of parts of a minute: so they are quickly compared and put in order.
    return [(parts_in(stay[0], unit), parts_in(stay[1], unit), stay[3]) for stay in stays]


def steps_of(stays):
    # The highs on the bridge change only where a wheel comes on or is off: tuples (from, to, sum).
    changes = {}
    for stay in stays:
        changes[stay[0]] = changes.get(stay[0], 0) + stay[2]
        changes[stay[1]] = changes.get(stay[1], 0) - stay[2]
    moments = sorted(changes)
    steps = []
    highs = 0
    for begin, end in zip(moments, moments[1:]):
        highs = highs + changes[begin]
        steps.append((begin, end, highs))
    return steps


def crowded_spans(others, own, bears):
    # A step of the others and one of its own meet where the entry lies in the open span between these two.
    spans = []
    for other in others:
        for step in own:
            if other[2] + step[2] > bears:
                spans.append((other[0] - step[1], other[1] - step[0]))
    return spans


def shut_spans(shuts, own, unit):
    spans = []
    for shut in shuts:
        spans.extend([(shut[0] * unit - stay[1], shut[1] * unit - stay[0]) for stay in own])
    return spans


def least_outside(spans, moment):
    # Spans are open, so their ends are free; in order of their beginnings none that was passed can hold it again.
    for span in sorted(spans):
        if span[0] < moment and moment < span[1]:
            moment = span[1]
    return moment


def entry_at(road, crossings, name, speed, wheels, coming):
    # Its own stays are reckoned as if it entered at 0: so each span tells of entries.
    own = stays_of(road, [(name, whole(0), speed, wheels)], name)
    others = stays_of(road, crossings, name)
    unit = common_beneath([coming] + [stay[0] for stay in own + others] + [stay[1] for stay in own + others])
    own = whole_stays(own, unit)
    others = whole_stays(others, unit)
    spans = crowded_spans(steps_of(others), steps_of(own), bridge_of(road, name).bears)
    spans = spans + shut_spans(shuts_of(road, name), own, unit)
    return made(least_outside(spans, parts_in(coming, unit)), unit)


def refuse_way(road, cart, way):
    if not fits_each(bridges_along(road, way), cart.wheels):
        raise NoWay("a cart does not fit a bridge of its way")


def trip_of(road, crossings, cart, way, start):
    refuse_way(road, cart, way)
    own = []
    place = 0
    moment = start
    for leg in legs_of(road, way):
        coming = driven(moment, leg[1] - place, cart.speed)
        moment = entry_at(road, crossings, leg[0].name, cart.speed, cart.wheels, coming)
        place = leg[1]
        own.append((leg[0].name, moment, cart.speed, cart.wheels))
    left = length_of(road, way) - place + span_of(cart.wheels)
    return Trip(cart, way, start, own, driven(moment, left, cart.speed))


def watched(road, sends):
    for send in sends:
        refuse_way(road, send[0], send[1])
    trips = []
    crossings = []
    for send in sends:
        trip = trip_of(road, crossings, send[0], send[1], send[2])
        trips.append(trip)
        crossings.extend(trip.crossings)
    return trips
