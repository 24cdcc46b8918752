"""What several tests use: sets of names and rules found the slow way, from their meaning."""

import random
from itertools import combinations

from nestprops.rules import All, Always, AtLeast, Needs, Never, Rule, Some


def subsets(names):
    """Return all subsets of some names, by size, then alphabetically."""
    ordered = sorted(names)
    return [one for size in range(len(ordered) + 1) for one in combinations(ordered, size)]


def least_by_meaning(names, test):
    """Return the least sets of a monotone test, in the order of the document [10]."""
    least = []
    for one in subsets(names):
        if test(one) and not any(set(other) <= set(one) for other in least):
            least.append(one)
    return tuple(least)


# A shape is a rule as nested tuples, so that its meaning can be told without the package.


def shapes(names, many, seed, depth=3):
    """Return random shapes over some names, the same ones each time."""
    source = random.Random(seed)
    return [random_shape(source, names, depth) for _ in range(many)]


def random_shape(source, names, depth):
    kind = source.choice(["name", "name", "all", "some", "least", "least", "always", "never"])
    if depth == 0 or kind == "name":
        return ("name", source.choice(names))
    if kind in ("always", "never"):
        return (kind,)
    parts = [random_shape(source, names, depth - 1) for _ in range(source.randint(0, 4))]
    if kind == "least":
        return (kind, source.randint(0, len(parts) + 1), *parts)
    return (kind, *parts)


def meaning(shape, parts):
    """Return whether the rule of a shape holds for some names."""
    kind = shape[0]
    if kind == "name":
        return shape[1] in parts
    if kind == "least":
        return sum(meaning(part, parts) for part in shape[2:]) >= shape[1]
    if kind == "all":
        return all(meaning(part, parts) for part in shape[1:])
    if kind == "some":
        return any(meaning(part, parts) for part in shape[1:])
    return kind == "always"


def built(shape):
    """Return the rule of a shape."""
    kind = shape[0]
    if kind == "name":
        return Needs(shape[1])
    if kind == "least":
        return AtLeast(shape[1], *[built(part) for part in shape[2:]])
    if kind == "all":
        return All(*[built(part) for part in shape[1:]])
    if kind == "some":
        return Some(*[built(part) for part in shape[1:]])
    return Always() if kind == "always" else Never()


def text_of(shape):
    """Return a text of a shape; calls without rules, which no text has, become what they mean."""
    kind = shape[0]
    if kind == "name":
        return shape[1]
    if kind in ("always", "never"):
        return kind
    parts = shape[2:] if kind == "least" else shape[1:]
    if not parts:
        return "always" if meaning(shape, ()) else "never"
    head = {"all": "all", "some": "any"}.get(kind) or f"{shape[1]} of"
    return f"{head} ( {' , '.join(text_of(part) for part in parts)} )"


def of_sets(*sets):
    """Return the rule of some sets, each a string of names of one letter."""
    return Rule.of_sets([list(one) for one in sets])


class EqualToAll:
    """A value that says that it is equal to everything."""

    def __eq__(self, other):
        return True

    def __ne__(self, other):
        return False
