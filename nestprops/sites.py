"""Sites: a yard under props, changed by one deed after another."""

from nestprops.checks import check_stands
from nestprops.deeds import PROP, PUT, TAKE, UNPROP, after_prop, after_put, after_take, is_deed
from nestprops.errors import Falls, NoDeed, NoProp
from nestprops.leastsets import names_of
from nestprops.masks import rest_in
from nestprops.stacks import stack_names
from nestprops.yards import Yard, parts_mask, yard_of

STRIKE = "strike"
UNDO = "undo"


class Site:
    """A yard that stands under its props, and a log of what was done."""

    def __init__(self, yard):
        check_stands(yard)
        self._plan = yard.plan
        # A state is never changed, only replaced, so the earlier ones can be kept for `undo`.
        self._state = (yard.mask, ())
        self._earlier = []
        self._entries = []

    @property
    def yard(self):
        """Return the yard as it is now."""
        return yard_of(self._plan, self._state[0])

    @property
    def props(self):
        """Return the props as they are now, a tuple of names, the last one last."""
        return stack_names(self._state[1], self._plan)

    def put(self, name):
        """Put a part; raises NoPart, then Falls if that is not careful."""
        bit = parts_mask(self._plan, (name,))
        state = after_put(self._plan, self._state, bit)
        if state is None:
            raise Falls(self._names(bit & ~self._state[0]))
        self._go(state, (PUT, name))

    def take(self, name):
        """Take a part away; raises NoPart, then Falls if that is not careful."""
        bit = parts_mask(self._plan, (name,))
        state = after_take(self._plan, self._state, bit)
        if state is None:
            raise Falls(self._names(self._gone(bit, self._state[1]) & ~bit))
        self._go(state, (TAKE, name))

    def prop(self, name):
        """Prop a part; raises NoPart, then Falls if it is propped."""
        state = after_prop(self._state, parts_mask(self._plan, (name,)))
        if state is None:
            raise Falls(())
        self._go(state, (PROP, name))

    def strike(self, name):
        """Remove a part and what falls then, and return the names of all that is gone; raises NoPart."""
        parts, stack = self._state
        gone = self._gone(parts_mask(self._plan, (name,)), stack)
        names = self._names(gone)
        self._go((parts & ~gone, stack), (STRIKE, name, names))
        return names

    def unprop(self):
        """Remove the last prop and what falls then, and return the names of what fell; raises NoProp."""
        parts, stack = self._state
        if len(stack) == 0:
            raise NoProp()
        gone = self._gone(0, stack[:-1])
        names = self._names(gone)
        self._go((parts & ~gone, stack[:-1]), (UNPROP, self.props[-1], names))
        return names

    def within(self, name, deeds):
        """Do deeds under one more prop and return what fell at the end; raises NoPart, Falls, then NoDeed."""
        self.prop(name)
        floor = len(self.props)
        many = self._done(deeds, floor)
        before = self._state[0]
        while len(self.props) >= floor:
            self.unprop()
        if many < len(deeds):
            raise NoDeed(many)
        return self._names(before & ~self._state[0])

    def trial(self, deeds):
        """Return the yard to which deeds would lead, and change nothing; raises NoDeed."""
        tried = self.copied()
        many = tried._done(deeds, len(self.props))
        if many < len(deeds):
            raise NoDeed(many)
        return tried.yard

    def undo(self):
        """Take back the last deed that is not taken back yet, and return whether there was one."""
        if len(self._earlier) == 0:
            return False
        self._state = self._earlier.pop()
        self._entries.append((UNDO,))
        return True

    def log(self):
        """Return what was done, a new list of tuples."""
        return list(self._entries)

    def copied(self):
        """Return an independent site in the same state, with the same log."""
        site = Site(Yard(self._plan))
        site._state = self._state
        site._earlier = list(self._earlier)
        site._entries = list(self._entries)
        return site

    def __len__(self):
        return len(self.yard)

    def __eq__(self, other):
        return isinstance(other, Site) and self.yard == other.yard and self.props == other.props

    def __repr__(self):
        return f"Site({len(self.yard)} parts, {len(self.props)} props)"

    def _names(self, mask):
        """Return the names of some parts in plan order."""
        return names_of(mask, self._plan.names)

    def _gone(self, struck, stack):
        """Return the mask of what is gone if parts are struck and these props are left."""
        parts = self._state[0]
        return parts & ~rest_in(self._plan, parts & ~struck, sum(stack))

    def _go(self, state, entry):
        """Go on to a state, with an entry in the log."""
        self._earlier.append(self._state)
        self._state = state
        self._entries.append(entry)

    def _done(self, deeds, floor):
        """Do deeds up to the first one that cannot be done, and return how many were done."""
        for at, item in enumerate(deeds):
            if not self._does(item, floor):
                return at
        return len(deeds)

    def _does(self, item, floor):
        """Do any value that is a deed and return whether that was possible; so many props have to stay."""
        if not is_deed(self._plan, item) and not is_strike(self._plan, item):
            return False
        if item[0] == UNPROP and len(self.props) <= floor:
            return False
        try:
            self._by_method(item)
        except Falls:
            return False
        return True

    def _by_method(self, deed):
        """Do a deed; raises Falls."""
        if deed[0] == PUT:
            self.put(deed[1])
        elif deed[0] == TAKE:
            self.take(deed[1])
        elif deed[0] == PROP:
            self.prop(deed[1])
        elif deed[0] == STRIKE:
            self.strike(deed[1])
        else:
            self.unprop()


def is_strike(plan, item):
    """Return whether any value is a strike of a part of a plan."""
    return isinstance(item, tuple) and len(item) == 2 and item[0] == STRIKE and item[1] in plan.names
