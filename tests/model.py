"""What section 2 of the document defines, found the slow way from its words, with frozensets.

Nothing here uses the modules that are tested with it but `Plan` and `Rule`.
"""

import random
from functools import lru_cache
from itertools import combinations

from nestprops.plans import Plan
from nestprops.rules import Always, AtLeast, Needs, Never, Rule

ARCH = Plan.read("x : all ( y , z )\ny : all ( x , z )\nz : all ( x , y )")
HUT = Plan.read("base : always\nleft : all ( base , right )\nright : all ( base , left )\nroof : all ( left , right )")


def ring(names, count):
    """Return the plan in which each part needs so many of the others."""
    return Plan([(name, AtLeast(count, *[Needs(other) for other in names if other != name])) for name in names])


EIGHT = ring("hgfedcba", 4)


def random_plans(many, seed, fewest=1, most=4):
    """Return random plans, the same ones each time; their order of parts is not the alphabetical one."""
    source = random.Random(seed)
    return [random_plan(source, source.randint(fewest, most)) for _ in range(many)]


def random_plan(source, size):
    names = source.sample(["a", "b", "ab", "c", "roof", "d", "z", "m"], size)
    return Plan([(name, random_rule(source, [other for other in names if other != name])) for name in names])


def random_rule(source, others):
    if not others or source.random() < 0.15:
        return source.choice([Always(), Never(), Always()])
    sets = [source.sample(others, source.randint(1, min(3, len(others)))) for _ in range(source.randint(1, 3))]
    return Rule.of_sets(sets)


def in_plan_order(plan, parts):
    """Return some parts as a tuple in plan order."""
    return tuple(name for name in plan.names if name in parts)


def subsets(plan):
    """Return all sets of parts in the order of the document [10]."""
    return [frozenset(one) for size in range(len(plan.names) + 1) for one in combinations(plan.names, size)]


def supported(plan, parts, props=()):
    """Return the supported parts ([5])."""
    return frozenset(name for name in plan.names if name in props or plan.rule(name)(list(parts)))


def stands(plan, parts, props=()):
    return parts <= supported(plan, parts, props)


def rest(plan, parts, props=()):
    """Return the union of all yards within a yard that stand under props ([6])."""
    return frozenset().union(*[one for one in subsets(plan) if one <= parts and stands(plan, one, props)])


def falling(plan, parts, props=()):
    """Return the parts that are not supported, in plan order."""
    return in_plan_order(plan, parts - supported(plan, parts, props))


class Growths:
    """The growths of [9]: the intersection of all sets that meet the conditions."""

    def __init__(self, plan):
        self.plan = plan
        self.all = subsets(plan)
        self.rest = lru_cache(None)(lambda parts, props: rest(plan, parts, props))
        self.supported = lru_cache(None)(lambda parts, props: supported(plan, parts, props))
        self.growth = lru_cache(None)(self.found)

    def found(self, parts, depth, props=frozenset()):
        wide = frozenset(self.plan.names)
        return wide.intersection(*[one for one in self.all if parts <= one and self.accepted(one, depth, props)])

    def accepted(self, parts, depth, props):
        if not self.supported(parts, props) <= parts:
            return False
        free = [name for name in self.plan.names if name not in props]
        return depth == 0 or all(
            self.rest(self.growth(parts, depth - 1, props | {name}), props) <= parts for name in free)


def deeds_of(plan):
    """Return all deeds of the parts of a plan."""
    return [(kind, name) for kind in ("put", "take", "prop") for name in plan.names] + [("unprop",)]


def step(plan, parts, stack, deed):
    """Return the yard and the props after a deed, or None if the deed is not careful ([7])."""
    if deed[0] == "put" and deed[1] not in parts and deed[1] in supported(plan, parts, stack):
        return parts | {deed[1]}, stack
    if deed[0] == "take" and deed[1] in parts and stands(plan, parts - {deed[1]}, stack):
        return parts - {deed[1]}, stack
    if deed[0] == "prop" and deed[1] not in stack:
        return parts, stack + (deed[1],)
    if deed[0] == "unprop" and stack and stands(plan, parts, stack[:-1]):
        return parts, stack[:-1]
    return None


def reached(plan, parts, depth):
    """Return the yards to which careful scripts of at most a depth lead from a standing yard ([8])."""
    begun = (parts, ())
    seen = {begun}
    todo = [begun]
    while todo:
        state = todo.pop()
        for deed in deeds_of(plan):
            after = step(plan, *state, deed)
            if after is not None and len(after[1]) <= depth and after not in seen:
                seen.add(after)
                todo.append(after)
    return frozenset(parts for parts, stack in seen if not stack)


def walk(source, plan, parts, many, depth):
    """Return a careful script with random deeds of at most a depth, and the yard to which it leads."""
    stack = ()
    past = []
    deeds = []
    for _ in range(many):
        careful = [(deed, step(plan, parts, stack, deed)) for deed in deeds_of(plan)]
        careful = [(deed, after) for deed, after in careful if after is not None and len(after[1]) <= depth]
        if careful:
            deed, after = source.choice(careful)
            past.append((deed, parts, stack))
            deeds.append(deed)
            parts, stack = after
    # Props that are left are taken away by going back to where there were none.
    while stack:
        deed, parts, stack = past.pop()
        deeds.append(backwards(deed, stack))
    return tuple(deeds), parts


def backwards(deed, stack):
    """Return the deed that takes back a deed that was done under these props."""
    if deed[0] == "prop":
        return ("unprop",)
    if deed[0] == "unprop":
        return ("prop", stack[-1])
    return ("take" if deed[0] == "put" else "put", deed[1])
