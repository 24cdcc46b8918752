"""Fewest deeds: the shortest scripts between two yards, and evidence that there is no shorter one."""

from nestprops.checks import check_pair
from nestprops.deeds import PROP, PUT, TAKE, UNPROP, after_deed
from nestprops.leastsets import mask_of, names_of
from nestprops.masks import stands_in
from nestprops.stacks import is_parts, is_stack, stack_names, stack_of


def fewest_deeds(yard, other, depth):
    """Return the least number of deeds of a script of at most a depth, or None; raises OtherPlan, then Falls."""
    found = fewest_script(yard, other, depth)
    if found is None:
        return None
    return len(found)


def fewest_script(yard, other, depth):
    """Return a careful script of at most a depth with the fewest deeds, or None; raises OtherPlan, then Falls."""
    check_pair(yard, other)
    steps = first_steps(yard, depth)
    state = (other.mask, ())
    if state not in steps:
        return None
    deeds = []
    while steps[state][0] > 0:
        _, state, deed = steps[state]
        deeds.append(deed)
    return tuple(deeds[::-1])


def distance_table(yard, other, depth):
    """Return a table that shows that fewer deeds are not enough, or None; raises OtherPlan, then Falls."""
    check_pair(yard, other)
    steps = first_steps(yard, depth)
    if (other.mask, ()) not in steps:
        return None
    plan = yard.plan
    return tuple([(names_of(parts, plan.names), stack_names(stack, plan), steps[parts, stack][0])
                  for parts, stack in steps])


def first_steps(yard, depth):
    """Return how each state within a depth is reached first from a yard, a dict.

    The value of a state is a tuple: the number of deeds up to it, the state before the last one, and this deed.
    """
    start = (yard.mask, ())
    steps = {start: (0, start, ())}
    layer = [start]
    while len(layer) > 0:
        reached = []
        for state in layer:
            for deed, after in next_states(yard.plan, state, depth):
                if after not in steps:
                    steps[after] = (steps[state][0] + 1, state, deed)
                    reached.append(after)
        layer = reached
    return steps


def next_states(plan, state, depth):
    """Return the careful deeds that keep a depth, each with the state after it, a list of pairs."""
    tried = [(deed, after_deed(plan, state, deed)) for deed in all_deeds(plan)]
    return [(deed, after) for deed, after in tried if after is not None and len(after[1]) <= depth]


def all_deeds(plan):
    """Return all deeds of the parts of a plan, a list."""
    return [(kind, name) for kind in (PUT, TAKE, PROP) for name in plan.names] + [(UNPROP,)]


def distances_hold(yard, other, depth, number, table):
    """Return whether any value shows that no script has fewer deeds than a number; raises OtherPlan, then Falls."""
    check_pair(yard, other)
    plan = yard.plan
    numbers = numbers_of(plan, depth, table)
    begun = (yard.mask, ())
    if begun not in numbers or numbers[begun] != 0:
        return False
    early = [state for state in numbers if numbers[state] < number - 1]
    if not all([next_are_near(plan, depth, numbers, state) for state in early]):
        return False
    return numbers.get((other.mask, ()), number) >= number


def numbers_of(plan, depth, table):
    """Return the numbers that a distance table tells, a dict by states; none if any value is no such table."""
    numbers = {}
    if not isinstance(table, tuple):
        return numbers
    for item in table:
        if not is_distance_entry(item, plan, depth):
            return {}
        state = (mask_of(item[0], plan.names), stack_of(item[1], plan))
        if state in numbers or not stands_in(plan, state[0], sum(state[1])):
            return {}
        numbers[state] = item[2]
    return numbers


def is_distance_entry(item, plan, depth):
    """Return whether any value has the form of an entry of a distance table."""
    if not isinstance(item, tuple) or len(item) != 3:
        return False
    if not isinstance(item[2], int) or isinstance(item[2], bool):
        return False
    return is_parts(item[0], plan) and is_stack(item[1], plan, depth)


def next_are_near(plan, depth, numbers, state):
    """Return whether each state that a deed leads to has a number at most one greater."""
    highest = numbers[state] + 1
    return all([after in numbers and numbers[after] <= highest for _, after in next_states(plan, state, depth)])
