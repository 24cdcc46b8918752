"""Scripts: deeds one after another."""

from nestprops.checks import check_plans, check_stands
from nestprops.deeds import PROP, PUT, TAKE, UNPROP, after_deed, is_deed
from nestprops.errors import Falls, NoDeed
from nestprops.yards import yard_of


def run(yard, deeds):
    """Return the yard to which a careful script leads; raises Falls, then NoDeed with the index of an item."""
    check_stands(yard)
    state = (yard.mask, ())
    for at, item in enumerate(deeds):
        if not is_deed(yard.plan, item):
            raise NoDeed(at)
        state = after_deed(yard.plan, state, item)
        if state is None:
            raise NoDeed(at)
    parts, stack = state
    if len(stack) > 0:
        raise NoDeed(len(deeds))
    return yard_of(yard.plan, parts)


def depth_of(deeds):
    """Return the greatest number of props that are there at the same time."""
    now = 0
    most = 0
    for deed in deeds:
        if deed[0] == PROP:
            now += 1
        if deed[0] == UNPROP:
            now -= 1
        most = max(most, now)
    return most


def reverse_of(deeds):
    """Return the script that leads back."""
    propped = []
    back = []
    for deed in deeds:
        if deed[0] == PROP:
            propped.append(deed[1])
            back.append((UNPROP,))
        elif deed[0] == UNPROP:
            back.append((PROP, propped.pop()))
        elif deed[0] == PUT:
            back.append((TAKE, deed[1]))
        else:
            back.append((PUT, deed[1]))
    return tuple(back[::-1])


def script_holds(yard, goal, depth, deeds):
    """Return whether any value is a careful script of at most a depth from one yard to another; raises OtherPlan."""
    check_plans(yard, goal)
    if not isinstance(deeds, tuple):
        return False
    try:
        reached = run(yard, deeds)
    except (Falls, NoDeed):
        return False
    return reached == goal and depth_of(deeds) <= depth
