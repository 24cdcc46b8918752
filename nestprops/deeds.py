"""Single deeds, in masks.

A state is a pair: the mask of a yard, and the stack, a tuple of the bits of the props, the last one last.
"""

from nestprops.leastsets import mask_of
from nestprops.masks import stands_in, supported_in

PUT = "put"
TAKE = "take"
PROP = "prop"
UNPROP = "unprop"


def is_deed(plan, item):
    """Return whether any value is a deed of a part of a plan."""
    if not isinstance(item, tuple):
        return False
    if len(item) == 1:
        return item[0] == UNPROP
    return len(item) == 2 and item[0] in (PUT, TAKE, PROP) and item[1] in plan.names


def after_deed(plan, state, deed):
    """Return the state after a deed, or None if the deed is not careful."""
    if deed[0] == UNPROP:
        return after_unprop(plan, state)
    bit = mask_of(deed[1:], plan.names)
    if deed[0] == PUT:
        return after_put(plan, state, bit)
    if deed[0] == TAKE:
        return after_take(plan, state, bit)
    return after_prop(state, bit)


def after_put(plan, state, bit):
    """Return the state after a part is put, or None if that is not careful."""
    parts, stack = state
    if parts & bit != 0 or supported_in(plan, parts, sum(stack)) & bit == 0:
        return None
    return parts | bit, stack


def after_take(plan, state, bit):
    """Return the state after a part is taken, or None if that is not careful."""
    parts, stack = state
    if parts & bit == 0 or not stands_in(plan, parts & ~bit, sum(stack)):
        return None
    return parts & ~bit, stack


def after_prop(state, bit):
    """Return the state after a part is propped, or None if that is not careful."""
    parts, stack = state
    if bit in stack:
        return None
    return parts, (*stack, bit)


def after_unprop(plan, state):
    """Return the state after the last prop is removed, or None if that is not careful."""
    parts, stack = state
    if len(stack) == 0 or not stands_in(plan, parts, sum(stack[:-1])):
        return None
    return parts, stack[:-1]
