"""What is supported and what stands, in masks: bit k of a mask stands for part k of a plan."""

from nestprops.leastsets import in_order, mask_of


def support_table(names, rules):
    """Return for each mask, as the index, the mask of the parts whose rules hold for it, a tuple."""
    table = [0] * (1 << len(names))
    for at, rule in enumerate(rules):
        for one in rule.least:
            least = mask_of(one, names)
            table[least] = table[least] | (1 << at)
    # Rules are monotone: what holds for a mask holds for the mask with one more bit.
    for at in range(len(names)):
        table = [worth | table[mask & ~(1 << at)] for mask, worth in enumerate(table)]
    return tuple(table)


def supported_in(plan, parts, props):
    """Return the mask of all parts, there or not, that are supported in a yard under props."""
    return plan.support[parts] | props


def falling_in(plan, parts, props):
    """Return the mask of the parts of a yard that are not supported in it under props."""
    return parts & ~supported_in(plan, parts, props)


def stands_in(plan, parts, props):
    """Return whether a yard stands under props."""
    return falling_in(plan, parts, props) == 0


def rest_in(plan, parts, props):
    """Return the mask of the rest of a yard under props."""
    left = parts
    falling = falling_in(plan, left, props)
    while falling != 0:
        left = left ^ falling
        falling = falling_in(plan, left, props)
    return left


def masks_in_order(many):
    """Return all masks of so many parts in the order of the document [10], a list."""
    places = list(range(many))
    return [mask_of(one, places) for one in in_order(list(range(1 << many)), places)]
