"""Yards: sets of parts of a plan."""

from nestprops.checks import check_parts, check_plans
from nestprops.errors import NoText
from nestprops.leastsets import mask_of, names_of
from nestprops.masks import masks_in_order, rest_in, stands_in, supported_in
from nestprops.yardtexts import EMPTY, show_yard


class Yard:
    """The parts of a plan that are there."""

    def __init__(self, plan, parts=()):
        check_parts(plan, parts)
        self.plan = plan
        self.mask = mask_of(parts, plan.names)
        self.parts = names_of(self.mask, plan.names)

    @classmethod
    def read(cls, plan, text):
        """Return the yard of a text; raises NoText with the index of a word."""
        return cls(plan, read_parts(plan, text))

    @property
    def stands(self):
        """Return whether the yard stands without props."""
        return stands_in(self.plan, self.mask, 0)

    @property
    def rest(self):
        """Return the greatest yard within this one that stands without props."""
        return yard_of(self.plan, rest_in(self.plan, self.mask, 0))

    def supported(self, props=()):
        """Return the parts, there or not, that are supported in the yard under props; raises NoPart."""
        return names_of(supported_in(self.plan, self.mask, parts_mask(self.plan, props)), self.plan.names)

    def stands_under(self, props):
        """Return whether the yard stands under props; raises NoPart."""
        return stands_in(self.plan, self.mask, parts_mask(self.plan, props))

    def rest_under(self, props):
        """Return the greatest yard within this one that stands under props; raises NoPart."""
        return yard_of(self.plan, rest_in(self.plan, self.mask, parts_mask(self.plan, props)))

    def __or__(self, other):
        """Return the union; raises OtherPlan."""
        check_plans(self, other)
        return yard_of(self.plan, self.mask | other.mask)

    def __and__(self, other):
        """Return the intersection; raises OtherPlan."""
        check_plans(self, other)
        return yard_of(self.plan, self.mask & other.mask)

    def __sub__(self, other):
        """Return the difference; raises OtherPlan."""
        check_plans(self, other)
        return yard_of(self.plan, self.mask & ~other.mask)

    def __eq__(self, other):
        return isinstance(other, Yard) and self.plan == other.plan and self.parts == other.parts

    def __len__(self):
        return len(self.parts)

    def __contains__(self, name):
        return name in self.parts

    def __bool__(self):
        return bool(self.parts)

    def __repr__(self):
        return f"Yard({show_yard(self)})"


def yard_of(plan, mask):
    """Return the yard of a mask."""
    return Yard(plan, names_of(mask, plan.names))


def parts_mask(plan, names):
    """Return the mask of some names; raises NoPart for the first one that is not a part."""
    check_parts(plan, names)
    return mask_of(names, plan.names)


def read_parts(plan, text):
    """Return the names in the text of a yard, a list; raises NoText with the index of a word."""
    if text == EMPTY:
        return []
    earlier = []
    for at, word in enumerate(text.split(" ")):
        if word not in plan.names or word in earlier:
            raise NoText(at)
        earlier.append(word)
    return earlier


def all_yards(plan, *, standing=True):
    """Go over the standing yards of a plan, or over all yards, in the order of the document [10]."""
    for mask in masks_in_order(len(plan.names)):
        if not standing or stands_in(plan, mask, 0):
            yield yard_of(plan, mask)
