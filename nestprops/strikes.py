"""Strikes: what holds a part, and what has to go to bring it down."""

from nestprops.leastsets import least_masks, names_of
from nestprops.masks import masks_in_order, rest_in, stands_in
from nestprops.yards import parts_mask, yard_of


def least_stands(yard, name):
    """Return the least standing yards within a yard that contain a part, a tuple of yards; raises NoPart."""
    plan = yard.plan
    bit = parts_mask(plan, (name,))
    masks = [mask for mask in masks_within(yard) if mask & bit != 0 and stands_in(plan, mask, 0)]
    return tuple([yard_of(plan, mask) for mask in least_in_order(masks)])


def least_strikes(yard, name):
    """Return the least sets of parts whose strike brings a part down, a tuple of tuples of names; raises NoPart."""
    plan = yard.plan
    bit = parts_mask(plan, (name,))
    masks = [mask for mask in masks_within(yard) if rest_in(plan, yard.mask & ~mask, 0) & bit == 0]
    return tuple([names_of(mask, plan.names) for mask in least_in_order(masks)])


def masks_within(yard):
    """Return the masks of all sets of parts of a yard in the order of the document [10], a list."""
    return [mask for mask in masks_in_order(len(yard.plan.names)) if mask & ~yard.mask == 0]


def least_in_order(masks):
    """Return the masks that no other one is within, in the order in which they were, a list."""
    least = least_masks(masks)
    return [mask for mask in masks if mask in least]
