"""The moments of crossings and watched days, reckoned apart from the program, with Python's own fractions."""

from fractions import Fraction
from itertools import permutations, product

from ballastway.roads import Bridge, Open


def value(pair):
    return Fraction(pair[0], pair[1])


def pair(number):
    number = Fraction(number)
    return (number.numerator, number.denominator)


def bridge_named(road, name):
    return [piece for piece in road.pieces if isinstance(piece, Bridge) and piece.name == name][0]


def shut_hours(road, name):
    return [(begin, end) for told, begin, end in road.shuts if told == name]


def offsets(wheels):
    return [sum(wheel[0] for wheel in wheels[1:place + 1]) for place in range(len(wheels))]


def stays(road, crossing):
    """For each wheel (on, off, low, high)."""
    name, entry, speed, wheels = crossing
    length = bridge_named(road, name).length
    told = []
    for offset, wheel in zip(offsets(wheels), wheels):
        on = value(entry) + Fraction(offset, speed)
        told.append((on, on + Fraction(length, speed), wheel[1], wheel[2]))
    return told


def all_stays(road, crossings, name):
    return [stay for crossing in crossings if crossing[0] == name for stay in stays(road, crossing)]


def sums(road, crossings, name, moment):
    there = [stay for stay in all_stays(road, crossings, name) if stay[0] <= moment < stay[1]]
    return (sum(stay[2] for stay in there), sum(stay[3] for stay in there))


def with_between(moments):
    """Moments, one between each two, one ahead of all and one behind."""
    rising = sorted(set(moments))
    if not rising:
        return [Fraction(0)]
    between = [(one + other) / 2 for one, other in zip(rising, rising[1:])]
    return sorted(rising + between + [rising[0] - 1, rising[-1] + 1])


def greatest_high(road, crossings, name):
    moments = with_between([each for stay in all_stays(road, crossings, name) for each in stay[:2]])
    return max(sums(road, crossings, name, moment)[1] for moment in moments)


def allowed(road, crossings, crossing):
    name = crossing[0]
    if greatest_high(road, list(crossings) + [crossing], name) > bridge_named(road, name).bears:
        return False
    for on, off, _, _ in stays(road, crossing):
        if any(on < end and begin < off for begin, end in shut_hours(road, name)):
            return False
    return True


def entries_that_matter(road, crossings, name, speed, wheels, coming):
    """The coming on, all later moments at which what is forbidden may change, and moments between them."""
    own = [each for stay in stays(road, (name, (0, 1), speed, wheels)) for each in stay[:2]]
    fixed = [each for stay in all_stays(road, crossings, name) for each in stay[:2]]
    fixed = fixed + [Fraction(each) for hour in shut_hours(road, name) for each in hour]
    later = [one - other for one in fixed for other in own if one - other > coming]
    return [moment for moment in with_between(later + [coming]) if moment >= coming]


def least_entry(road, crossings, name, speed, wheels, coming):
    for moment in entries_that_matter(road, crossings, name, speed, wheels, coming):
        if allowed(road, crossings, (name, pair(moment), speed, wheels)):
            return moment
    return None


def near_ends(road, way):
    """A list of (name, place) of the bridges that the way leads over, and how long the way is."""
    rounds = dict(road.rounds)
    led = iter(way)
    told = []
    place = 0
    for piece in road.pieces:
        if isinstance(piece, Open):
            place = place + piece.length
        elif next(led):
            told.append((piece.name, place))
            place = place + piece.length
        else:
            place = place + rounds[piece.name]
    return told, place


def trip(road, crossings, cart, way, start):
    """The comings, the crossings and the end of a trip."""
    places, length = near_ends(road, way)
    comings = []
    own = []
    moment = value(start)
    driven = 0
    for name, place in places:
        coming = moment + Fraction(place - driven, cart.speed)
        moment = least_entry(road, crossings, name, cart.speed, cart.wheels, coming)
        driven = place
        comings.append(coming)
        own.append((name, pair(moment), cart.speed, list(cart.wheels)))
    ended = moment + Fraction(length - driven + offsets(cart.wheels)[-1], cart.speed)
    return comings, own, ended


def day(road, sends):
    """The trips of a watched day: tuples (comings, crossings, end)."""
    trips = []
    crossings = []
    for cart, way, start in sends:
        told = trip(road, crossings, cart, way, start)
        trips.append(told)
        crossings = crossings + told[1]
    return trips


def heaviest(wheels, width):
    places = offsets(wheels)
    return max(sum(wheel[2] for place, wheel in zip(places, wheels) if 0 <= place - first < width) for first in places)


def fitting_ways(road, wheels):
    bridges = [piece for piece in road.pieces if isinstance(piece, Bridge)]
    rounds = dict(road.rounds)
    choices = [[True, False] if bridge.name in rounds else [True] for bridge in bridges]
    told = []
    for way in product(*choices):
        over = [bridge for bridge, led in zip(bridges, way) if led]
        if all(heaviest(wheels, bridge.length) <= bridge.bears and heaviest(wheels, bridge.wide) <= bridge.most
               for bridge in over):
            told.append(way)
    return told


def shapes(road, carts):
    told = []
    for order in permutations(range(len(carts))):
        told.extend([(order, ways) for ways in product(*[fitting_ways(road, carts[place].wheels) for place in order])])
    return told
