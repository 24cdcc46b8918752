"""Climbs: careful scripts from yards up to their growths.

Two yards in one lot have the same growth, so a climb and another one backwards lead from one to the other.
"""

from nestprops.deeds import PROP, PUT, UNPROP
from nestprops.leastsets import names_of
from nestprops.masks import rest_in, supported_in
from nestprops.scripts import reverse_of


def climb(grower, parts, props, depth):
    """Return deeds from a yard that stands under props to its growth at a depth under them, a tuple."""
    names = grower.plan.names
    deeds = tuple([(PUT, name) for name in puts(grower.plan, parts, props)])
    closed = grower.closure(parts, props)
    if depth == 0:
        return deeds
    for bit in grower.bits_outside(props):
        brought = grower.growth(closed, props | bit, depth - 1)
        kept = rest_in(grower.plan, brought, props)
        if kept != closed:
            inner = over(grower, closed, kept, props | bit, depth - 1)
            begun = (PROP, *names_of(bit, names))
            return (*deeds, begun, *inner, (UNPROP,), *climb(grower, kept, props, depth))
    return deeds


def over(grower, parts, goal, props, depth):
    """Return deeds between two yards that stand under props and have the same growth under them, a tuple."""
    up = climb(grower, parts, props, depth)
    return (*up, *reverse_of(climb(grower, goal, props, depth)))


def puts(plan, parts, props):
    """Return the names of the parts that can be put one after another until no more is supported, a list."""
    names = []
    now = parts
    more = supported_in(plan, now, props) & ~now
    while more != 0:
        names.extend(names_of(more, plan.names))
        now = now | more
        more = supported_in(plan, now, props) & ~now
    return names
