"""Texts of plans."""

from nestprops.ruletexts import show_rule


def show_plan(plan):
    """Return the text of a plan, a row for each part."""
    return "\n".join([f"{name} : {show_rule(plan.rule(name))}" for name in plan.names])
