"""Stacks: props in the order in which they were placed, and the parts of tables that tell of them.

A stack is kept as a tuple of bits, one for each prop; in a table it is a tuple of names.
"""

from nestprops.leastsets import mask_of, names_of


def stack_of(names, plan):
    """Return the stack of some names of parts."""
    return tuple([mask_of((name,), plan.names) for name in names])


def stack_names(stack, plan):
    """Return the names of a stack, a tuple."""
    return tuple([name for bit in stack for name in names_of(bit, plan.names)])


def is_stack(item, plan, depth):
    """Return whether any value is a tuple of at most so many different names of parts."""
    if not isinstance(item, tuple) or len(item) > depth:
        return False
    return all([name in plan.names and name not in item[:at] for at, name in enumerate(item)])


def is_parts(item, plan):
    """Return whether any value is a tuple of different names of parts in plan order."""
    return isinstance(item, tuple) and item == names_of(mask_of(item, plan.names), plan.names)


def all_stacks(plan, depth):
    """Return all stacks of at most so many props, shorter ones before longer ones, a list."""
    bits = [1 << at for at in range(len(plan.names))]
    stacks = [()]
    longest = [()]
    for _ in range(depth):
        longest = [(*stack, bit) for stack in longest for bit in bits if bit not in stack]
        stacks = stacks + longest
    return stacks
