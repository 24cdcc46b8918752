"""Joined yards: whether and how one can be changed into the other, and evidence that it cannot."""

from nestprops.checks import check_pair
from nestprops.climbs import over
from nestprops.growth import Grower
from nestprops.leastsets import mask_of, names_of
from nestprops.masks import rest_in, supported_in
from nestprops.stacks import all_stacks, is_parts, is_stack, stack_names, stack_of


def are_joined(yard, other, depth):
    """Return whether two yards are joined at a depth; raises OtherPlan, then Falls."""
    check_pair(yard, other)
    return same_lot(Grower(yard.plan), yard, other, depth)


def depth_between(yard, other):
    """Return the least depth at which two yards are joined; raises OtherPlan, then Falls."""
    check_pair(yard, other)
    return least_depth(Grower(yard.plan), yard, other)


def script_between(yard, other, depth):
    """Return a careful script of at most a depth from one yard to another, or None; raises OtherPlan, then Falls."""
    check_pair(yard, other)
    grower = Grower(yard.plan)
    # The lower the climb, the shorter the script.
    for least in range(depth + 1):
        if same_lot(grower, yard, other, least):
            return over(grower, yard.mask, other.mask, 0, least)
    return None


def same_lot(grower, yard, other, depth):
    """Return whether two yards are in one lot at a depth."""
    return grower.growth(yard.mask, 0, depth) == grower.growth(other.mask, 0, depth)


def least_depth(grower, yard, other):
    """Return the least depth at which two yards are in one lot."""
    depth = 0
    while not same_lot(grower, yard, other, depth):
        depth += 1
    return depth


def bar_table(yard, other, depth):
    """Return a table that shows that two yards are not joined at a depth, or None; raises OtherPlan, then Falls."""
    check_pair(yard, other)
    grower = Grower(yard.plan)
    for one, outside in ((yard, other), (other, yard)):
        wide = grower.growth(one.mask, 0, depth)
        if outside.mask & ~wide != 0:
            return table_of(yard.plan, grown_zones(grower, wide, depth))
    return None


def grown_zones(grower, wide, depth):
    """Return what can be reached under each stack from within a full yard, a dict of masks by stacks."""
    zones = {(): wide}
    for stack in all_stacks(grower.plan, depth)[1:]:
        zones[stack] = grower.growth(zones[stack[:-1]], sum(stack), depth - len(stack))
    return zones


def table_of(plan, zones):
    """Return the table that tells zones."""
    return tuple([(stack_names(stack, plan), names_of(zone, plan.names)) for stack, zone in zones.items()])


def bar_holds(yard, other, depth, table):
    """Return whether any value shows that two yards are not joined at a depth; raises OtherPlan, then Falls."""
    check_pair(yard, other)
    plan = yard.plan
    zones = zones_of(plan, depth, table)
    if not all([stack in zones for stack in all_stacks(plan, depth)]):
        return False
    if is_within(yard.mask, zones[()]) == is_within(other.mask, zones[()]):
        return False
    return all([zone_holds(plan, depth, zones, stack) for stack in zones])


def zones_of(plan, depth, table):
    """Return the zones that a table tells; none at all if any value is no table of at most this depth."""
    zones = {}
    if not isinstance(table, tuple):
        return zones
    for item in table:
        if not is_bar_entry(item, plan, depth):
            return {}
        stack = stack_of(item[0], plan)
        if stack in zones:
            return {}
        zones[stack] = mask_of(item[1], plan.names)
    return zones


def is_bar_entry(item, plan, depth):
    """Return whether any value is an entry of a bar table."""
    if not isinstance(item, tuple) or len(item) != 2:
        return False
    return is_stack(item[0], plan, depth) and is_parts(item[1], plan)


def is_within(parts, wider):
    """Return whether all bits of a mask are in another one."""
    return parts & ~wider == 0


def zone_holds(plan, depth, zones, stack):
    """Return whether no deed leads out of the zone of a stack."""
    props = sum(stack)
    zone = zones[stack]
    if not is_within(supported_in(plan, zone, props), zone):
        return False
    # The zones of stacks with one more prop; there are none behind the longest stacks.
    stacks = [(*stack, 1 << at) for at in range(len(plan.names))]
    longer = [zones[above] for above in stacks if above in zones]
    return all([is_within(zone, wider) and is_within(rest_in(plan, wider, props), zone) for wider in longer])
