"""Exact fractions: pairs (above, beneath) in lowest terms, beneath 1 or more."""

from ballastway.figures import figures_of, number_of


def common_part(one, other):
    one = abs(one)
    other = abs(other)
    while other != 0:
        rest = one % other
        one = other
        other = rest
    return one


def made(above, beneath):
    part = common_part(above, beneath)
    # Dividing both by a number below 0 brings the sign above.
    if beneath < 0:
        part = -part
    return (above // part, beneath // part)


def whole(number):
    return (number, 1)


def plus(one, other):
    return made(one[0] * other[1] + other[0] * one[1], one[1] * other[1])


def minus(one, other):
    return made(one[0] * other[1] - other[0] * one[1], one[1] * other[1])


def times(one, other):
    return made(one[0] * other[0], one[1] * other[1])


def over(one, other):
    return made(one[0] * other[1], one[1] * other[0])


def less(one, other):
    return one[0] * other[1] < other[0] * one[1]


def greater_of(one, other):
    if less(one, other):
        return other
    return one


def merged(one, other):
    told = []
    first = 0
    second = 0
    while first < len(one) and second < len(other):
        if less(other[second], one[first]):
            told.append(other[second])
            second = second + 1
        else:
            told.append(one[first])
            first = first + 1
    return told + one[first:] + other[second:]


def in_order(some):
    # Halves are put in order and merged: sorted itself can't be asked with less.
    if len(some) < 2:
        return list(some)
    middle = len(some) // 2
    return merged(in_order(some[:middle]), in_order(some[middle:]))


def common_beneath(some):
    # The least number of which each number beneath is a part: over it all of them are whole.
    beneath = 1
    for fraction in some:
        beneath = beneath * fraction[1] // common_part(beneath, fraction[1])
    return beneath


def parts_in(fraction, beneath):
    return fraction[0] * (beneath // fraction[1])


def frac_text(fraction):
    above = figures_of(abs(fraction[0]))
    if fraction[0] < 0:
        above = "-" + above
    if fraction[1] == 1:
        return above
    return above + "/" + figures_of(fraction[1])


def frac_of(text):
    below_nought = text.startswith("-")
    size = text[1:] if below_nought else text
    parts = size.partition("/")
    above = number_of(parts[0])
    beneath = 1 if parts[1] == "" else number_of(parts[2])
    if above is None or beneath is None or beneath == 0:
        return None
    fraction = made(-above if below_nought else above, beneath)
    # A fraction has one text: so `-0`, a bottom of 1 and a common part fall out here.
    if frac_text(fraction) != text:
        return None
    return fraction
