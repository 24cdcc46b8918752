"""Falls: what remains after parts are struck, and how the others go."""

from nestprops.leastsets import mask_of, names_of
from nestprops.masks import falling_in, rest_in
from nestprops.yards import parts_mask, yard_of


def fallen(yard, struck=(), props=()):
    """Return the rest, under props, of a yard without the struck parts; raises NoPart."""
    left, propped = after_strike(yard, struck, props)
    return yard_of(yard.plan, rest_in(yard.plan, left, propped))


def fall_rounds(yard, struck=(), props=()):
    """Go over the rounds of a fall, each a tuple of the names that fall together; raises NoPart."""
    left, propped = after_strike(yard, struck, props)
    falling = falling_in(yard.plan, left, propped)
    while falling != 0:
        yield names_of(falling, yard.plan.names)
        left = left ^ falling
        falling = falling_in(yard.plan, left, propped)


def fall_row(yard, struck=(), props=()):
    """Return an order in which the parts of a fall can fall one at a time, a tuple; raises NoPart."""
    # Parts that fall together can fall in any order: what is unsupported stays so.
    return tuple([name for names in fall_rounds(yard, struck, props) for name in names])


def fall_row_holds(yard, row, struck=(), props=()):
    """Return whether any value is an order as `fall_row` returns one; raises NoPart."""
    left, propped = after_strike(yard, struck, props)
    if not isinstance(row, tuple):
        return False
    for name in row:
        # A name that is no part has no bit, so nothing that falls.
        bit = mask_of((name,), yard.plan.names)
        if bit & falling_in(yard.plan, left, propped) == 0:
            return False
        left = left ^ bit
    return falling_in(yard.plan, left, propped) == 0


def after_strike(yard, struck, props):
    """Return the masks of a yard without the struck parts and of the props; raises NoPart."""
    gone = parts_mask(yard.plan, struck)
    return yard.mask & ~gone, parts_mask(yard.plan, props)
