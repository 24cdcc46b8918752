"""Growth: what joined yards have in common."""

from nestprops.masks import masks_in_order, rest_in, stands_in, supported_in
from nestprops.yards import parts_mask, yard_of


class Grower:
    """The growths of the yards of a plan, in masks. It keeps what it found, because the same ones return often."""

    def __init__(self, plan):
        self.plan = plan
        self.found = {}

    def growth(self, parts, props, depth):
        """Return the growth of a yard at a depth under props."""
        closed = self.closure(parts, props)
        if depth == 0:
            return closed
        # A yard and its closure have the same growth, so one place serves for both.
        key = (closed, props, depth)
        if key not in self.found:
            self.found[key] = self.growth_of_closed(closed, props, depth)
        return self.found[key]

    def closure(self, parts, props):
        """Return the growth at depth 0."""
        larger = parts | supported_in(self.plan, parts, props)
        if larger == parts:
            return parts
        return self.closure(larger, props)

    def growth_of_closed(self, parts, props, depth):
        """Return the growth of a yard that is its own closure, at a depth of at least 1."""
        larger = self.with_one_more_prop(parts, props, depth)
        if larger == parts:
            return parts
        return self.growth(larger, props, depth)

    def with_one_more_prop(self, parts, props, depth):
        """Return the yard with what remains of its growths under one more prop when that is gone again."""
        larger = parts
        for bit in self.bits_outside(props):
            brought = self.growth(larger, props | bit, depth - 1)
            larger = larger | rest_in(self.plan, brought, props)
        return larger

    def bits_outside(self, props):
        """Return the bits of the parts that are not propped, a list."""
        return [1 << at for at in range(len(self.plan.names)) if (props >> at) & 1 == 0]


def grown(yard, *, depth=0, props=()):
    """Return the growth of a yard, which need not stand, at a depth under props; raises NoPart."""
    propped = parts_mask(yard.plan, props)
    return yard_of(yard.plan, Grower(yard.plan).growth(yard.mask, propped, depth))


def is_full(yard, *, depth=0):
    """Return whether a yard stands and is its own growth at a depth."""
    return yard.stands and grown(yard, depth=depth) == yard


def full_yards(plan, *, depth=0):
    """Go over the full yards at a depth, in the order of the document [10]."""
    grower = Grower(plan)
    for mask in masks_in_order(len(plan.names)):
        if stands_in(plan, mask, 0) and grower.growth(mask, 0, depth) == mask:
            yield yard_of(plan, mask)


def join_of(yard, other, *, depth=0):
    """Return the growth of the union of two yards at a depth; raises OtherPlan."""
    return grown(yard | other, depth=depth)


def meet_of(yard, other):
    """Return the rest of the intersection of two yards; raises OtherPlan."""
    return (yard & other).rest
