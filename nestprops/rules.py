"""Rules: which sets of names a part accepts as its support."""

from nestprops.leastsets import all_of, at_least, holds, least_sets, meeting_sets, names_in, some_of
from nestprops.rulereader import least_of, read_tree
from nestprops.ruletexts import show_rule


class Rule:
    """A monotone rule, kept as its least sets."""

    def __init__(self, least):
        """Take least sets as the functions of leastsets return them."""
        self.least = least
        self.names = tuple(names_in(least))

    @classmethod
    def of_sets(cls, sets):
        """Return the rule that holds for a set that contains one of the given ones."""
        return Rule(least_sets(sets))

    @classmethod
    def read(cls, text):
        """Return the rule of a text; raises NoText with the index of a word."""
        return Rule(least_of(read_tree(text.split(" "))))

    def __call__(self, parts):
        """Return whether the rule holds for a list or tuple of names."""
        return holds(self.least, parts)

    def __and__(self, other):
        """Return the rule that holds if both rules hold."""
        return Rule(all_of([self.least, other.least]))

    def __or__(self, other):
        """Return the rule that holds if at least one of the rules holds."""
        return Rule(some_of([self.least, other.least]))

    def __eq__(self, other):
        return isinstance(other, Rule) and self.least == other.least

    def __bool__(self):
        return bool(self.least)

    def __repr__(self):
        return f"Rule({show_rule(self)})"

    def given(self, name):
        """Return the rule that holds for a set if this one holds for it together with a name."""
        return Rule(least_sets([[word for word in one if word != name] for one in self.least]))

    def lacking(self, name):
        """Return the rule that holds for a set if this one holds for it without a name."""
        return Rule(least_sets([one for one in self.least if name not in one]))

    @property
    def turned(self):
        """Return the rule that holds for a set that meets every least set of this one."""
        return Rule(meeting_sets(self.least))


class Needs(Rule):
    """The rule that holds if a name is there."""

    def __init__(self, name):
        Rule.__init__(self, ((name,),))


class All(Rule):
    """The rule that holds if all rules hold."""

    def __init__(self, *rules):
        Rule.__init__(self, all_of([rule.least for rule in rules]))


class Some(Rule):
    """The rule that holds if at least one rule holds."""

    def __init__(self, *rules):
        Rule.__init__(self, some_of([rule.least for rule in rules]))


class AtLeast(Rule):
    """The rule that holds if at least `count` rules hold."""

    def __init__(self, count, *rules):
        Rule.__init__(self, at_least(count, [rule.least for rule in rules]))


class Always(Rule):
    """The rule that always holds."""

    def __init__(self):
        Rule.__init__(self, ((),))


class Never(Rule):
    """The rule that never holds."""

    def __init__(self):
        Rule.__init__(self, ())
