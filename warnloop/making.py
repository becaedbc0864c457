"""Making: the fewest openers that keep a bound, and the volts along a row of devices."""

from warnloop.errors import NoPlan


def fewest_openers(weights, most):
    """Fewest openers that part the things so that no part weighs more than most, and spans that need as many."""
    if any([weight > most for weight in weights]):
        raise NoPlan("one thing weighs more than most")
    openers = []
    spans = []
    begin = 0
    load = 0
    # An opener stands as late as it may, ahead of the thing that would be too much: so the things from the one
    # behind the opener ahead up to this very one must be parted, wherever openers stand.
    for at, weight in enumerate(weights):
        load += weight
        if load > most:
            openers.append(at)
            spans.append((begin, at))
            begin = at
            load = weight
    return (tuple(openers), tuple(spans))


def lowest(top, bottom):
    """The fraction in lowest terms."""
    shared = abs(top)
    rest = bottom
    while rest:
        shared, rest = rest, shared % rest
    return (top // shared, bottom // shared)


def plus(one, other):
    """The two fractions added."""
    return lowest(one[0] * other[1] + other[0] * one[1], one[1] * other[1])


def minus(one, other):
    """The one fraction less the other."""
    return lowest(one[0] * other[1] - other[0] * one[1], one[1] * other[1])


def times(one, other):
    """The one fraction times the other."""
    return lowest(one[0] * other[0], one[1] * other[1])


def drops(resists, draws, on):
    """What is lost on the stretch ahead of each device."""
    drawn = (0, 1)
    told = []
    # From the last one on, for each stretch carries what is drawn behind it.
    for resist, draw, is_on in reversed(list(zip(resists, draws, on))):
        if is_on:
            drawn = plus(drawn, draw)
        told.append(times(resist, drawn))
    return told[::-1]


def volts(supply, resists, draws, on):
    """What is left at each device, by which of them are on."""
    left = supply
    told = []
    for drop in drops(resists, draws, on):
        left = minus(left, drop)
        told.append(left)
    return told


def least_supply(resists, draws, need):
    """The least supply at which need is left at the last device when all are on."""
    supply = need
    for drop in drops(resists, draws, [True for draw in draws]):
        supply = plus(supply, drop)
    return supply
