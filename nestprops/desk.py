"""Desks: a site that is told rows of words and answers with texts."""

from nestprops.errors import NoRow
from nestprops.growth import grown
from nestprops.joined import depth_between, script_between
from nestprops.plans import Plan
from nestprops.sites import Site
from nestprops.words import is_name
from nestprops.yards import Yard
from nestprops.yardtexts import show_names, show_yard

DONE = "done"
# The first words of rows that stand alone, with a name, or with a text.
ALONE = ("unprop", "undo", "yard", "props")
NAMED = ("put", "take", "prop", "strike")
TOLD = ("plan", "depth", "rest")
# The rows that are about scripts, which begin without props.
UNPROPPED = ("depth", "way")
GROW_DEPTHS = ("0", "1", "2", "3", "4", "5", "6", "7", "8")
WAY_DEPTHS = ("0", "1", "2", "3", "4", "5")


def words_of(row):
    """Return the words of any value that is a row of one of the forms, a list; raises NoRow."""
    if not isinstance(row, str) or "\n" in row:
        raise NoRow()
    words = row.split(" ")
    if "" in words or not has_form(words[0], words[1:]):
        raise NoRow()
    return words


def has_form(word, others):
    """Return whether a row has one of the forms, given by its first word and the other ones."""
    if word in ALONE:
        return len(others) == 0
    if word in NAMED:
        return len(others) == 1 and is_name(others[0])
    if word == "grow":
        return len(others) == 1 and others[0] in GROW_DEPTHS
    if word == "way":
        return len(others) > 1 and others[0] in WAY_DEPTHS
    return word in TOLD and len(others) > 0


def answer_put(site, words):
    """Put a part."""
    site.put(words[0])
    return DONE


def answer_take(site, words):
    """Take a part away."""
    site.take(words[0])
    return DONE


def answer_prop(site, words):
    """Prop a part."""
    site.prop(words[0])
    return DONE


def answer_strike(site, words):
    """Strike a part and tell what is gone."""
    return show_names(site.strike(words[0]))


def answer_unprop(site, words):
    """Remove the last prop and tell what fell."""
    return show_names(site.unprop())


def answer_undo(site, words):
    """Take back the last deed and tell whether there was one."""
    return "undone" if site.undo() else "nothing"


def answer_yard(site, words):
    """Tell the yard."""
    return show_yard(site.yard)


def answer_props(site, words):
    """Tell the props."""
    return show_names(site.props)


def answer_grow(site, words):
    """Tell the growth of the yard under the props."""
    return show_yard(grown(site.yard, depth=int(words[0]), props=site.props))


def answer_depth(site, words):
    """Tell the depth between the yard and another one."""
    return str(depth_between(site.yard, read_yard(site, words)))


def answer_rest(site, words):
    """Tell the rest of another yard."""
    return show_yard(read_yard(site, words).rest)


def answer_way(site, words):
    """Tell a script from the yard to another one."""
    goal = read_yard(site, words[1:])
    if goal == site.yard:
        return "here"
    script = script_between(site.yard, goal, int(words[0]))
    if script is None:
        return "never"
    return " , ".join([" ".join(deed) for deed in script])


def read_yard(site, words):
    """Return the yard of the words of a text, over the plan of a site; raises NoText."""
    return Yard.read(site.yard.plan, " ".join(words))


ANSWERS = {
    "put": answer_put,
    "take": answer_take,
    "prop": answer_prop,
    "strike": answer_strike,
    "unprop": answer_unprop,
    "undo": answer_undo,
    "yard": answer_yard,
    "props": answer_props,
    "grow": answer_grow,
    "depth": answer_depth,
    "rest": answer_rest,
    "way": answer_way,
}


class Desk:
    """A site, at first none, that is told rows."""

    def __init__(self):
        self._site = None

    def say(self, row):
        """Return the answer to any value that is a row; raises NoRow, then NoText and NoPlan, then other errors."""
        words = words_of(row)
        if words[0] == "plan":
            return self._begin(" ".join(words[1:]))
        if self._site is None:
            raise NoRow()
        if words[0] in UNPROPPED and len(self._site.props) > 0:
            raise NoRow()
        answer = ANSWERS[words[0]]
        return answer(self._site, words[1:])

    def _begin(self, text):
        """Keep a new site with the empty yard of the plan of a text, and tell how many parts it has."""
        plan = Plan.read(text.replace(" ; ", "\n"))
        self._site = Site(Yard(plan))
        return f"{len(plan)} parts"

    def __len__(self):
        if self._site is None:
            return 0
        return len(self._site)
