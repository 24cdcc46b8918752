"""Plans: the parts of a building and their rules."""

from nestprops.errors import NoPart, NoPlan, NoText
from nestprops.rulereader import least_of, read_tree
from nestprops.rules import Rule
from nestprops.masks import support_table
from nestprops.words import is_name

MOST_PARTS = 8


class Plan:
    """Named parts in a fixed order, each with a rule over the other parts."""

    def __init__(self, rows):
        check_count(rows)
        check_names(rows)
        check_rules(rows)
        self.names = tuple([row[0] for row in rows])
        self._rules = tuple([row[1] for row in rows])
        # Nearly everything about yards asks for it again and again, so it is made once.
        self.support = support_table(self.names, self._rules)

    @classmethod
    def of(cls, **rules):
        """Return the plan with these names and rules, in this order."""
        return cls(list(rules.items()))

    @classmethod
    def read(cls, text):
        """Return the plan of a text; raises NoText with the index of a row, then NoPlan."""
        rows = read_rows(text.split("\n"))
        return cls([(name, Rule(least_of(tree))) for name, tree in rows])

    def rule(self, name):
        """Return the rule of a part; raises NoPart."""
        if name not in self.names:
            raise NoPart(name)
        return self._rules[self.names.index(name)]

    def __len__(self):
        return len(self.names)

    def __contains__(self, name):
        return name in self.names

    def __eq__(self, other):
        return isinstance(other, Plan) and self.names == other.names and self._rules == other._rules

    def __repr__(self):
        return f"Plan({len(self.names)} parts)"


def check_count(rows):
    """Raise NoPlan if there are too few or too many rows."""
    if len(rows) < 1 or len(rows) > MOST_PARTS:
        raise NoPlan("count", -1)


def check_names(rows):
    """Raise NoPlan for the first row that does not have a name of its own."""
    earlier = []
    for at, row in enumerate(rows):
        if not is_name(row[0]) or row[0] in earlier:
            raise NoPlan("name", at)
        earlier.append(row[0])


def check_rules(rows):
    """Raise NoPlan for the first row whose rule is not over the other parts."""
    names = [row[0] for row in rows]
    for at, row in enumerate(rows):
        if not all([name in names and name != row[0] for name in row[1].names]):
            raise NoPlan("rule", at)


def read_rows(texts):
    """Return the names and trees of the rows of a plan; raises NoText with the index of a row."""
    rows = []
    earlier = []
    for at, text in enumerate(texts):
        name, tree = read_row(text, at)
        if name in earlier or at >= MOST_PARTS:
            raise NoText(at)
        earlier.append(name)
        rows.append((name, tree))
    return rows


def read_row(text, at):
    """Return the name and the tree of a row; raises NoText with the index of the row."""
    words = text.split(" ")
    if not is_name(words[0]) or words[1:2] != [":"]:
        raise NoText(at)
    rest = words[2:]
    try:
        tree = read_tree(rest)
    except NoText:
        raise NoText(at) from None
    return words[0], tree
