"""Lots: the standing yards that are joined with one another at a depth."""

from nestprops.checks import check_plans, check_stands
from nestprops.growth import Grower
from nestprops.joined import least_depth
from nestprops.leastsets import names_of
from nestprops.masks import masks_in_order, stands_in
from nestprops.yards import yard_of
from nestprops.yardtexts import show_yard


def lot_of(yard, depth):
    """Return the yards of the lot of a standing yard at a depth, in the order of the document [10]; raises Falls."""
    check_stands(yard)
    grower = Grower(yard.plan)
    greatest = grower.growth(yard.mask, 0, depth)
    masks = [mask for mask in standing_masks(yard.plan) if grower.growth(mask, 0, depth) == greatest]
    return yards_of(yard.plan, masks)


def lots(plan, depth):
    """Go over the lots at a depth, each a tuple of yards, in the order of their greatest yards."""
    for masks in lots_within(Grower(plan), standing_masks(plan), depth):
        yield yards_of(plan, masks)


def standing_masks(plan):
    """Return the masks of the standing yards of a plan in the order of the document [10], a list."""
    return [mask for mask in masks_in_order(len(plan.names)) if stands_in(plan, mask, 0)]


def yards_of(plan, masks):
    """Return the yards of some masks, a tuple."""
    return tuple([yard_of(plan, mask) for mask in masks])


def lots_within(grower, masks, depth):
    """Return the lots at a depth among masks that are whole lots, in the order of their greatest yards."""
    # The greatest yards are those that are their own growths; each stands behind the others of its lot.
    members = {mask: [] for mask in masks if grower.growth(mask, 0, depth) == mask}
    for mask in masks:
        members[grower.growth(mask, 0, depth)].append(mask)
    return list(members.values())


def lot_tree(plan):
    """Return the tree of all lots of a plan."""
    # At a depth equal to the number of parts all standing yards are in one lot.
    return node_of(Grower(plan), standing_masks(plan), len(plan.names))


def node_of(grower, masks, depth):
    """Return the node of a lot at a depth, given by its masks in order."""
    if depth == 0:
        return node(grower, masks, 0, ())
    inner = lots_within(grower, masks, depth - 1)
    if len(inner) == 1:
        return node_of(grower, masks, depth - 1)
    nodes = tuple([node_of(grower, lot, depth - 1) for lot in inner])
    return node(grower, masks, depth, nodes)


def node(grower, masks, depth, nodes):
    """Return a node of the tree, for a lot that is given by its masks in order."""
    return depth, names_of(masks[-1], grower.plan.names), nodes


def depth_text(yards):
    """Return the depths between yards as a text, a row for each; raises OtherPlan, then Falls."""
    for yard in yards:
        check_plans(yards[0], yard)
    for yard in yards:
        check_stands(yard)
    grower = Grower(yards[0].plan)
    width = max([len(show_yard(yard)) for yard in yards])
    return "\n".join([depth_row(grower, yard, yards, width) for yard in yards])


def depth_row(grower, yard, yards, width):
    """Return the row of one yard in the text of the depths between yards."""
    cells = [str(least_depth(grower, yard, other)).rjust(3) for other in yards]
    return show_yard(yard).ljust(width) + "".join(cells)
