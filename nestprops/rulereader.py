"""Reading the words of a rule.

A text is first read to its end as a tree, because the rules of a wrong text
may have more least sets than could ever be made.
A tree is a name, or a pair (count, trees): at least so many of the trees hold.
"""

from nestprops.errors import NoText
from nestprops.leastsets import at_least
from nestprops.words import is_name

COUNTS = ("0", "1", "2", "3", "4", "5", "6", "7", "8")
ALWAYS = (0, ())
NEVER = (1, ())


def read_tree(words):
    """Return the tree of the words of a rule; raises NoText with the index of a word."""
    tree, at = tree_from(words, 0)
    if at < len(words):
        raise NoText(at)
    return tree


def tree_from(words, at):
    """Return the tree that begins at a word, and the index behind it."""
    word = word_at(words, at)
    if word == "always":
        return ALWAYS, at + 1
    if word == "never":
        return NEVER, at + 1
    if is_name(word):
        return word, at + 1
    if word == "all":
        trees, after = trees_from(words, at + 1)
        return (len(trees), trees), after
    if word == "any":
        trees, after = trees_from(words, at + 1)
        return (1, trees), after
    if word in COUNTS:
        expect(words, at + 1, "of")
        trees, after = trees_from(words, at + 2)
        return (int(word), trees), after
    raise NoText(at)


def trees_from(words, at):
    """Return the trees in the parentheses that begin at a word, and the index behind them."""
    expect(words, at, "(")
    tree, after = tree_from(words, at + 1)
    trees = [tree]
    while word_at(words, after) == ",":
        tree, after = tree_from(words, after + 1)
        trees.append(tree)
    expect(words, after, ")")
    return trees, after + 1


def word_at(words, at):
    """Return a word; raises NoText if the words end before it."""
    if at >= len(words):
        raise NoText(len(words))
    return words[at]


def expect(words, at, wanted):
    """Raise NoText if the word at an index is not the wanted one."""
    if word_at(words, at) != wanted:
        raise NoText(at)


def least_of(tree):
    """Return the least sets of the rule of a tree."""
    if isinstance(tree, str):
        return ((tree,),)
    count, trees = tree
    return at_least(count, [least_of(part) for part in trees])
