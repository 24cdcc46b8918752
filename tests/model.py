"""What section 2 of the document defines, found the slow way from its words, with frozensets.

Nothing here uses the modules that are tested with it but `Plan` and `Rule`.
"""

import random
from collections import deque
from functools import lru_cache
from itertools import combinations, permutations

from nestprops.plans import Plan
from nestprops.rules import Always, AtLeast, Needs, Never, Rule

ARCH = Plan.read("x : all ( y , z )\ny : all ( x , z )\nz : all ( x , y )")
HUT = Plan.read("base : always\nleft : all ( base , right )\nright : all ( base , left )\nroof : all ( left , right )")


def ring(names, count):
    """Return the plan in which each part needs so many of the others."""
    return Plan([(name, AtLeast(count, *[Needs(other) for other in names if other != name])) for name in names])


EIGHT = ring("hgfedcba", 4)


def random_plans(many, seed, fewest=1, most=4):
    """Return random plans, the same ones each time; their order of parts is not the alphabetical one."""
    source = random.Random(seed)
    return [random_plan(source, source.randint(fewest, most)) for _ in range(many)]


def random_plan(source, size):
    names = source.sample(["a", "b", "ab", "c", "roof", "d", "z", "m"], size)
    return Plan([(name, random_rule(source, [other for other in names if other != name])) for name in names])


def random_rule(source, others):
    if not others or source.random() < 0.15:
        return source.choice([Always(), Never(), Always()])
    sets = [source.sample(others, source.randint(1, min(3, len(others)))) for _ in range(source.randint(1, 3))]
    return Rule.of_sets(sets)


def knotted_plans(many, seed, fewest=3, most=4):
    """Return random plans of parts that hold one another up, so that most of them have several lots."""
    source = random.Random(seed)
    return [knotted_plan(source, source.randint(fewest, most)) for _ in range(many)]


def knotted_plan(source, size):
    names = source.sample(["a", "b", "ab", "c", "roof", "d", "z", "m"], size)
    rows = []
    for name in names:
        others = [other for other in names if other != name]
        sizes = [source.randint(source.choice([1, 2, 2]), len(others)) for _ in range(source.randint(1, 2))]
        rows.append((name, Rule.of_sets([source.sample(others, size) for size in sizes])))
    return Plan(rows)


def in_plan_order(plan, parts):
    """Return some parts as a tuple in plan order."""
    return tuple(name for name in plan.names if name in parts)


def subsets(plan):
    """Return all sets of parts in the order of the document [10]."""
    return [frozenset(one) for size in range(len(plan.names) + 1) for one in combinations(plan.names, size)]


def supported(plan, parts, props=()):
    """Return the supported parts ([5])."""
    return frozenset(name for name in plan.names if name in props or plan.rule(name)(list(parts)))


def stands(plan, parts, props=()):
    return parts <= supported(plan, parts, props)


def rest(plan, parts, props=()):
    """Return the union of all yards within a yard that stand under props ([6])."""
    return frozenset().union(*[one for one in subsets(plan) if one <= parts and stands(plan, one, props)])


def falling(plan, parts, props=()):
    """Return the parts that are not supported, in plan order."""
    return in_plan_order(plan, parts - supported(plan, parts, props))


class Growths:
    """The growths of [9]: the intersection of all sets that meet the conditions."""

    def __init__(self, plan):
        self.plan = plan
        self.all = subsets(plan)
        self.rest = lru_cache(None)(lambda parts, props: rest(plan, parts, props))
        self.supported = lru_cache(None)(lambda parts, props: supported(plan, parts, props))
        self.growth = lru_cache(None)(self.found)

    def found(self, parts, depth, props=frozenset()):
        wide = frozenset(self.plan.names)
        return wide.intersection(*[one for one in self.all if parts <= one and self.accepted(one, depth, props)])

    def accepted(self, parts, depth, props):
        if not self.supported(parts, props) <= parts:
            return False
        free = [name for name in self.plan.names if name not in props]
        return depth == 0 or all(
            self.rest(self.growth(parts, depth - 1, props | {name}), props) <= parts for name in free)


def deeds_of(plan):
    """Return all deeds of the parts of a plan."""
    return [(kind, name) for kind in ("put", "take", "prop") for name in plan.names] + [("unprop",)]


def step(plan, parts, stack, deed):
    """Return the yard and the props after a deed, or None if the deed is not careful ([7])."""
    if deed[0] == "put" and deed[1] not in parts and deed[1] in supported(plan, parts, stack):
        return parts | {deed[1]}, stack
    if deed[0] == "take" and deed[1] in parts and stands(plan, parts - {deed[1]}, stack):
        return parts - {deed[1]}, stack
    if deed[0] == "prop" and deed[1] not in stack:
        return parts, stack + (deed[1],)
    if deed[0] == "unprop" and stack and stands(plan, parts, stack[:-1]):
        return parts, stack[:-1]
    return None


def distances(plan, parts, depth):
    """Return the least number of deeds to each yard and props within a depth, from a standing yard without props."""
    numbers = {(parts, ()): 0}
    todo = deque(numbers)
    while todo:
        state = todo.popleft()
        for deed in deeds_of(plan):
            after = step(plan, *state, deed)
            if after is not None and len(after[1]) <= depth and after not in numbers:
                numbers[after] = numbers[state] + 1
                todo.append(after)
    return numbers


def reached(plan, parts, depth):
    """Return the yards to which careful scripts of at most a depth lead from a standing yard ([8])."""
    return frozenset(parts for parts, stack in distances(plan, parts, depth) if not stack)


def standing(plan):
    """Return the standing yards in the order of the document [10]."""
    return [one for one in subsets(plan) if stands(plan, one)]


def lots_at(plan, depth):
    """Return the lots at a depth in the order of their greatest yards, each a tuple of yards in order ([8])."""
    left = standing(plan)
    lots = []
    while left:
        lot = reached(plan, left[0], depth)
        lots.append(tuple(one for one in left if one in lot))
        left = [one for one in left if one not in lot]
    places = subsets(plan)
    return sorted(lots, key=lambda lot: places.index(max(lot, key=len)))


def stacks(plan, depth):
    """Return all tuples of at most so many different parts."""
    return [one for size in range(min(depth, len(plan)) + 1) for one in permutations(plan.names, size)]


def tuples(plan):
    """Return all sets of parts as tuples in plan order, in the order of the document [10]."""
    return [in_plan_order(plan, one) for one in subsets(plan)]


def bars(plan, one, other, depth, table):
    """Return whether any value is a bar table that holds, from the words of [34]."""
    if not isinstance(table, tuple) or not all(isinstance(item, tuple) and len(item) == 2 for item in table):
        return False
    everything = stacks(plan, depth)
    if sorted(map(repr, everything)) != sorted(repr(item[0]) for item in table):
        return False
    yards = tuples(plan)
    if not all(item[1] in yards for item in table):
        return False
    zones = {item[0]: frozenset(item[1]) for item in table}
    if (one <= zones[()]) == (other <= zones[()]):
        return False
    if not all(supported(plan, zones[stack], stack) <= zones[stack] for stack in everything):
        return False
    longer = [stack for stack in everything if stack]
    return all(zones[stack[:-1]] <= zones[stack] and rest(plan, zones[stack], stack[:-1]) <= zones[stack[:-1]]
               for stack in longer)


def shows_distance(plan, one, other, depth, number, table):
    """Return whether any value is a distance table that shows a number, from the words of [39]."""
    if not isinstance(table, tuple) or not all(isinstance(item, tuple) and len(item) == 3 for item in table):
        return False
    yards, props = tuples(plan), stacks(plan, depth)
    if not all(parts in yards and stack in props for parts, stack, _ in table):
        return False
    if not all(type(worth) is int for _, _, worth in table):
        return False
    numbers = {(frozenset(parts), stack): worth for parts, stack, worth in table}
    if len(numbers) < len(table) or not all(stands(plan, parts, stack) for parts, stack in numbers):
        return False
    if numbers.get((one, ())) != 0:
        return False
    for (parts, stack), worth in numbers.items():
        for deed in deeds_of(plan) if worth < number - 1 else []:
            after = step(plan, parts, stack, deed)
            if after is not None and len(after[1]) <= depth:
                if after not in numbers or numbers[after] > worth + 1:
                    return False
    return (other, ()) not in numbers or numbers[other, ()] >= number


def walk(source, plan, parts, many, depth):
    """Return a careful script with random deeds of at most a depth, and the yard to which it leads."""
    stack = ()
    past = []
    deeds = []
    for _ in range(many):
        careful = [(deed, step(plan, parts, stack, deed)) for deed in deeds_of(plan)]
        careful = [(deed, after) for deed, after in careful if after is not None and len(after[1]) <= depth]
        if careful:
            deed, after = source.choice(careful)
            past.append((deed, parts, stack))
            deeds.append(deed)
            parts, stack = after
    # Props that are left are taken away by going back to where there were none.
    while stack:
        deed, parts, stack = past.pop()
        deeds.append(backwards(deed, stack))
    return tuple(deeds), parts


def backwards(deed, stack):
    """Return the deed that takes back a deed that was done under these props."""
    if deed[0] == "prop":
        return ("unprop",)
    if deed[0] == "unprop":
        return ("prop", stack[-1])
    return ("take" if deed[0] == "put" else "put", deed[1])
