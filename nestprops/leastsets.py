"""Least sets: what rules are made of.

Least sets are a tuple of tuples of names, in the order of the document [10].
They are combined as masks: bit k of a mask stands for name k of an alphabetical list,
and a mask within another one is never the greater number.
"""


def names_in(sets):
    """Return the names that occur in some sets, in alphabetical order, a list."""
    return sorted({name for one in sets for name in one})


def mask_of(one, names):
    """Return the mask of a set."""
    return sum([1 << at for at, name in enumerate(names) if name in one])


def names_of(mask, names):
    """Return the names of a mask, a tuple."""
    return tuple([name for at, name in enumerate(names) if (mask >> at) & 1 == 1])


def in_order(masks, names):
    """Return the sets of some masks in the order of the document [10], a tuple of tuples."""
    sets = sorted([names_of(mask, names) for mask in masks])
    # Sorting is stable: sets of one length stay in alphabetical order.
    return tuple(sorted(sets, key=len))


def least_masks(masks):
    """Return the masks that no other one is within, each once, a list."""
    least = []
    # A mask comes behind those within it, because these are lesser numbers.
    for mask in sorted(set(masks)):
        if not any([(mask & kept) == kept for kept in least]):
            least.append(mask)
    return least


def both_masks(first, second):
    """Return the least masks of what holds if both of two lists of masks hold."""
    return least_masks([left | right for left in first for right in second])


def least_sets(sets):
    """Return the least ones of some lists or tuples of names, as least sets."""
    names = names_in(sets)
    return in_order(least_masks([mask_of(one, names) for one in sets]), names)


def all_of(rules):
    """Return the least sets for which all rules hold, each given by its least sets."""
    names = names_in([one for least in rules for one in least])
    masks = [0]
    for least in rules:
        masks = both_masks(masks, [mask_of(one, names) for one in least])
    return in_order(masks, names)


def some_of(rules):
    """Return the least sets for which some rule holds."""
    return least_sets([one for least in rules for one in least])


def at_least(count, rules):
    """Return the least sets for which at least `count` rules hold."""
    names = names_in([one for least in rules for one in least])
    # Item k are the least masks for which at least k of the rules seen so far hold.
    reached = [[0]] + [[] for k in range(count)]
    for least in rules:
        reached = one_more(reached, [mask_of(one, names) for one in least])
    return in_order(reached[count], names)


def one_more(reached, masks):
    """Return `reached` of `at_least` as it is after one more rule, given by its least masks."""
    longer = [reached[0]]
    for count in range(1, len(reached)):
        longer.append(least_masks(reached[count] + both_masks(reached[count - 1], masks)))
    return longer


def meeting_sets(least):
    """Return the least sets that meet each of the given ones."""
    return all_of([[(name,) for name in one] for one in least])


def holds(least, parts):
    """Return whether one of the least sets is within a list or tuple of names."""
    return any([all([name in parts for name in one]) for one in least])
