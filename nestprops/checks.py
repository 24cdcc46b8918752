"""Checks of arguments that several modules make."""

from nestprops.errors import Falls, NoPart, OtherPlan


def check_parts(plan, names):
    """Raise NoPart for the first name that is not a part of a plan."""
    for name in names:
        if name not in plan.names:
            raise NoPart(name)


def check_plans(yard, other):
    """Raise OtherPlan if the plans of two yards are not equal."""
    if yard.plan != other.plan:
        raise OtherPlan()


def check_stands(yard):
    """Raise Falls with the parts that are not supported if a yard does not stand."""
    supported = yard.supported()
    falling = tuple([name for name in yard.parts if name not in supported])
    if len(falling) > 0:
        raise Falls(falling)


def check_pair(yard, other):
    """Raise OtherPlan, then Falls for the first yard, then for the second one, if the pair has such a fault."""
    check_plans(yard, other)
    check_stands(yard)
    check_stands(other)
