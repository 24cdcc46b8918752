"""Promises [40] to [47], with [2], [7], [11] and [12]."""

import random
import unittest

from nestprops.errors import Falls, NoDeed, NoPart, NoProp, YardError
from nestprops.joined import script_between
from nestprops.plans import Plan
from nestprops.rules import Always, Needs, Never, Rule
from nestprops.scripts import run
from nestprops.sites import Site
from nestprops.yards import Yard, all_yards
from tests import model
from tests.helpers import EqualToAll
from tests.model import ARCH, EIGHT, HUT
from tests.test_scripts import NO_DEEDS

PLANS = [ARCH, HUT, *model.random_plans(15, "sites"), *model.knotted_plans(15, "sites")]
UP = [("put", "x"), ("prop", "y"), ("put", "y"), ("put", "z")]
NO_STRIKES = [("strike",), ("strike", "q"), ("strike", None), ("strike", "x", "y"), ("strike", True), ["strike", "x"],
              ("strike", ("x",)), ("strike", ""), ("strikes", "x"), ("x", "strike")]


class SlowSite:
    """A site from the words of section 14, with sets, that keeps all it was."""

    def __init__(self, plan, parts):
        self.plan = plan
        self.now = (frozenset(parts), ())
        self.earlier = []
        self.entries = []

    def state(self):
        return model.in_plan_order(self.plan, self.now[0]), self.now[1], list(self.entries)

    def go(self, parts, stack, entry):
        self.earlier.append(self.now)
        self.now = (frozenset(parts), stack)
        self.entries.append(entry)

    def known(self, name):
        if name not in self.plan.names:
            raise NoPart(name)

    def careful(self, kind, name, falls):
        self.known(name)
        after = model.step(self.plan, *self.now, (kind, name))
        if after is None:
            raise Falls(model.in_plan_order(self.plan, falls))
        self.go(*after, (kind, name))

    def put(self, name):
        self.careful("put", name, {name} - self.now[0])

    def take(self, name):
        parts, stack = self.now
        left = parts - {name}
        self.careful("take", name, left - model.rest(self.plan, left, stack) if name in parts else ())

    def prop(self, name):
        self.careful("prop", name, ())

    def strike(self, name):
        self.known(name)
        parts, stack = self.now
        left = model.rest(self.plan, parts - {name}, stack)
        gone = model.in_plan_order(self.plan, parts - left)
        self.go(left, stack, ("strike", name, gone))
        return gone

    def unprop(self):
        parts, stack = self.now
        if not stack:
            raise NoProp()
        left = model.rest(self.plan, parts, stack[:-1])
        fell = model.in_plan_order(self.plan, parts - left)
        self.go(left, stack[:-1], ("unprop", stack[-1], fell))
        return fell

    def fault(self, deeds, floor):
        """Do the deeds up to the first one that cannot be done and return its index, or None."""
        for at, deed in enumerate(deeds):
            known = [("unprop",),
                     *[(kind, name) for kind in ("put", "take", "prop", "strike") for name in self.plan.names]]
            if deed not in known or deed == ("unprop",) and len(self.now[1]) <= floor:
                return at
            try:
                getattr(self, deed[0])(*deed[1:])
            except Falls:
                return at
        return None

    def within(self, name, deeds):
        self.prop(name)
        floor = len(self.now[1])
        at = self.fault(deeds, floor)
        fell = []
        while len(self.now[1]) >= floor:
            fell.extend(self.unprop())
        if at is not None:
            raise NoDeed(at)
        return model.in_plan_order(self.plan, fell)

    def trial(self, deeds):
        kept = (self.now, list(self.earlier), list(self.entries))
        at = self.fault(deeds, len(self.now[1]))
        reached = self.now[0]
        self.now, self.earlier, self.entries = kept
        if at is not None:
            raise NoDeed(at)
        return Yard(self.plan, sorted(reached))

    def undo(self):
        if not self.earlier:
            return False
        self.now = self.earlier.pop()
        self.entries.append(("undo",))
        return True


def state_of(site):
    return site.yard.parts, site.props, site.log()


def outcome(site, word, *arguments):
    """Return what a method returns, or the error that it raises, with what it keeps."""
    try:
        return "value", getattr(site, word)(*arguments)
    except (YardError, NoPart) as error:
        return type(error).__name__, vars(error)


def random_call(source, plan):
    word = source.choice(["put", "put", "put", "take", "prop", "prop", "strike", "unprop", "within", "within", "trial",
                          "undo"])
    name = source.choice([*plan.names, *plan.names, *plan.names, "q"])
    if word in ("unprop", "undo"):
        return (word,)
    if word == "trial":
        return word, random_deeds(source, plan)
    if word == "within":
        return word, name, random_deeds(source, plan)
    return word, name


def random_deeds(source, plan):
    kinds = ["put", "put", "put", "prop", "prop", "take", "strike"]
    found = [(source.choice(kinds), source.choice(plan.names)) for _ in range(source.randint(0, 6))]
    if source.random() < 0.6:
        found.insert(source.randint(0, len(found)), ("unprop",))
    if source.random() < 0.1:
        found.insert(source.randint(0, len(found)),
                     source.choice([("undo",), ("put", "q"), None, ("unprop", "x"), ("strike",)]))
    return source.choice([list, tuple])(found)


class TestByMeaning(unittest.TestCase):
    def test_random_calls(self):
        source = random.Random("calls")
        seen = {}
        for plan in PLANS:
            for parts in source.sample(model.standing(plan), min(4, len(model.standing(plan)))):
                site, slow = Site(Yard(plan, sorted(parts))), SlowSite(plan, parts)
                for _ in range(60):
                    call = random_call(source, plan)
                    result = outcome(site, *call)
                    self.assertEqual(result, outcome(slow, *call), (plan, call))
                    self.assertEqual(state_of(site), slow.state(), (plan, call))
                    self.assertTrue(site.yard.stands_under(site.props))
                    seen[call[0], result[0]] = seen.get((call[0], result[0]), 0) + 1
        for key in (("within", "value"), ("within", "NoDeed"), ("within", "Falls"), ("within", "NoPart"),
                    ("trial", "value"),
                    ("trial", "NoDeed"), ("unprop", "NoProp"), ("take", "Falls"), ("put", "Falls"),
                    ("strike", "NoPart")):
            self.assertGreater(seen[key], 20, key)

    def test_errors_change_nothing(self):
        source = random.Random("errors")
        many = 0
        for plan in PLANS:
            site = Site(Yard(plan))
            for _ in range(60):
                call = random_call(source, plan)
                before, copied = state_of(site), site.copied()
                kind, _ = outcome(site, *call)
                if kind != "value" and (call[0], kind) != ("within", "NoDeed") or call[0] == "trial":
                    many += 1
                    self.assertEqual(state_of(site), before)
                    self.assertEqual(site, copied)
        self.assertGreater(many, 100)


class TestSite(unittest.TestCase):
    def falls(self, names, call, *arguments):
        with self.assertRaises(Falls) as caught:
            call(*arguments)
        self.assertEqual(caught.exception.names, names)
        self.assertIs(type(caught.exception.names), tuple)

    def no_part(self, name, call, *arguments):
        with self.assertRaises(NoPart) as caught:
            call(*arguments)
        self.assertEqual(caught.exception.name, name)

    def test_document_example(self):
        site = Site(Yard(ARCH))
        self.assertEqual(site.within("x", UP), ())
        self.assertEqual(site.yard.parts, ("x", "y", "z"))
        self.assertEqual(site.strike("y"), ("x", "y", "z"))

    def test_a_new_site(self):
        for plan in (ARCH, HUT, EIGHT):
            for yard in list(all_yards(plan))[:5]:
                site = Site(yard=yard)
                self.assertEqual(site.yard, yard)
                self.assertIs(type(site.yard), Yard)
                self.assertEqual((site.props, site.log(), site.undo()), ((), [], False))
                self.assertEqual(site.log(), [])

    def test_a_yard_that_does_not_stand(self):
        self.falls(("left", "roof"), Site, Yard(HUT, ["roof", "left", "base"]))
        self.falls(("x", "z"), Site, Yard(ARCH, ["z", "x"]))

    def test_put(self):
        site = Site(Yard(HUT))
        self.assertIsNone(site.put("base"))
        self.assertEqual(site.yard.parts, ("base",))
        self.falls(("left",), site.put, "left")
        self.falls((), site.put, "base")
        self.no_part("q", site.put, "q")
        self.no_part("", site.put, "")
        self.no_part("none", site.put, "none")
        self.assertIsNone(site.prop(name="left"))
        self.falls(("right",), site.put, "right")
        self.assertIsNone(site.put(name="left"))
        self.assertIsNone(site.put("right"))
        self.assertEqual(site.yard.parts, ("base", "left", "right"))
        self.assertEqual(site.log(), [("put", "base"), ("prop", "left"), ("put", "left"), ("put", "right")])

    def test_take(self):
        site = Site(Yard(HUT, HUT.names))
        self.falls(("left", "right", "roof"), site.take, "base")
        self.falls(("right", "roof"), site.take, "left")
        self.assertIsNone(site.take("roof"))
        self.falls((), site.take, "roof")
        self.falls(("right",), site.take, "left")
        self.no_part("q", site.take, "q")
        site.prop("right")
        self.assertIsNone(site.take(name="left"))
        self.assertEqual(site.yard.parts, ("base", "right"))
        self.assertEqual(site.log(), [("take", "roof"), ("prop", "right"), ("take", "left")])

    def test_prop(self):
        site = Site(Yard(ARCH))
        for name in ("z", "x"):
            self.assertIsNone(site.prop(name))
        self.assertEqual(site.props, ("z", "x"))
        self.falls((), site.prop, "z")
        self.falls((), site.prop, "x")
        self.no_part("q", site.prop, "q")
        self.assertEqual(site.props, ("z", "x"))
        self.assertEqual(site.log(), [("prop", "z"), ("prop", "x")])

    def test_strike(self):
        site = Site(Yard(HUT, HUT.names))
        self.assertEqual(site.strike("roof"), ("roof",))
        self.assertEqual(site.strike("roof"), ())
        self.assertEqual(site.strike(name="right"), ("left", "right"))
        self.no_part("q", site.strike, "q")
        self.assertEqual(site.yard.parts, ("base",))
        self.assertEqual(site.log(),
                         [("strike", "roof", ("roof",)), ("strike", "roof", ()),
                          ("strike", "right", ("left", "right"))])

    def test_strike_under_props(self):
        site = Site(Yard(HUT, HUT.names))
        site.prop("roof")
        site.prop("left")
        self.assertEqual(site.strike("right"), ("right",))
        self.assertEqual(site.strike("left"), ("left",))
        self.assertEqual(site.yard.parts, ("base", "roof"))
        self.assertEqual(site.props, ("roof", "left"))

    def test_unprop(self):
        site = Site(Yard(ARCH))
        self.assertRaises(NoProp, site.unprop)
        for name in "xy":
            site.prop(name)
            site.put(name)
        self.assertEqual(site.unprop(), ("y",))
        self.assertEqual((site.yard.parts, site.props), (("x",), ("x",)))
        self.assertEqual(site.unprop(), ("x",))
        self.assertRaises(NoProp, site.unprop)
        self.assertEqual(site.log()[-2:], [("unprop", "y", ("y",)), ("unprop", "x", ("x",))])
        site.prop("z")
        self.assertEqual(site.unprop(), ())
        self.assertEqual(site.log()[-1], ("unprop", "z", ()))

    def test_scripts_of_the_package_can_be_done(self):
        for plan in PLANS:
            yards = list(all_yards(plan))
            for yard, other in zip(yards, yards[::-1]):
                script = script_between(yard, other, 4)
                site = Site(yard)
                for deed in script:
                    getattr(site, deed[0])(*deed[1:])
                self.assertEqual((site.yard, site.props), (other, ()))
                self.assertEqual(run(yard, script), other)
                self.assertEqual(Site(yard).trial(script), other)

    def test_names_are_in_plan_order(self):
        plan = Plan([("c", Always()), ("b", Needs("c")), ("a", Needs("b"))])
        self.assertEqual(Site(Yard(plan, "abc")).strike("c"), ("c", "b", "a"))
        self.falls(("b", "a"), Site(Yard(plan, "abc")).take, "c")
        site = Site(Yard(plan))
        site.prop("b")
        site.put("b")
        site.put("a")
        self.assertEqual(site.unprop(), ("b", "a"))


class TestWithin(unittest.TestCase):
    def no_deed(self, at, call, *arguments):
        with self.assertRaises(NoDeed) as caught:
            call(*arguments)
        self.assertEqual(caught.exception.at, at)

    def test_log_of_the_document_example(self):
        site = Site(Yard(ARCH))
        site.within(name="x", deeds=tuple(UP))
        self.assertEqual(site.log(), [("prop", "x"), *UP, ("unprop", "y", ()), ("unprop", "x", ())])
        self.assertEqual(site.props, ())

    def test_no_deeds_at_all(self):
        site = Site(Yard(ARCH))
        self.assertEqual(site.within("x", []), ())
        self.assertEqual(site.log(), [("prop", "x"), ("unprop", "x", ())])

    def test_parts_that_fall_at_the_end_are_in_plan_order(self):
        site = Site(Yard(ARCH))
        self.assertEqual(site.within("z", [("put", "z"), ("prop", "x"), ("put", "x")]), ("x", "z"))
        self.assertEqual(site.log()[-2:], [("unprop", "x", ("x",)), ("unprop", "z", ("z",))])
        self.assertEqual(site.yard.parts, ())

    def test_only_parts_that_fall_at_the_end_are_returned(self):
        site = Site(Yard(ARCH))
        deeds = [("prop", "x"), ("put", "x"), ("unprop",), ("put", "z"), ("strike", "z"), ("put", "z")]
        self.assertEqual(site.within("z", deeds), ("z",))
        self.assertEqual(site.log(), [("prop", "z"), ("prop", "x"), ("put", "x"), ("unprop", "x", ("x",)), ("put", "z"),
                                      ("strike", "z", ("z",)), ("put", "z"), ("unprop", "z", ("z",))])

    def test_an_unprop_removes_only_props_of_the_deeds(self):
        site = Site(Yard(ARCH))
        site.prop("y")
        self.no_deed(0, site.within, "x", [("unprop",)])
        self.assertEqual((site.props, site.log()), (("y",), [("prop", "y"), ("prop", "x"), ("unprop", "x", ())]))
        self.no_deed(2, site.within, "x", [("prop", "z"), ("unprop",), ("unprop",), ("put", "y")])
        self.assertEqual((site.yard.parts, site.props), ((), ("y",)))
        self.assertEqual(site.within("x", [("prop", "z"), ("unprop",), ("prop", "z"), ("unprop",)]), ())
        self.assertEqual(site.props, ("y",))

    def test_errors_before_anything_is_done(self):
        site = Site(Yard(ARCH))
        site.prop("y")
        before = state_of(site)
        for name in ("q", "", "none"):
            with self.assertRaises(NoPart) as caught:
                site.within(name, [None])
            self.assertEqual(caught.exception.name, name)
        with self.assertRaises(Falls) as caught:
            site.within("y", [None])
        self.assertEqual(caught.exception.names, ())
        self.assertEqual(state_of(site), before)

    def test_the_end_comes_also_after_a_deed_that_cannot_be_done(self):
        site = Site(Yard(ARCH))
        self.no_deed(3, site.within, "x", [("put", "x"), ("prop", "y"), ("put", "y"), ("put", "y"), ("put", "z")])
        self.assertEqual((site.yard.parts, site.props), ((), ()))
        self.assertEqual(site.log(), [("prop", "x"), ("put", "x"), ("prop", "y"), ("put", "y"),
                                      ("unprop", "y", ("y",)), ("unprop", "x", ("x",))])
        # What stands without the props is not taken back.
        self.no_deed(4, site.within, "x", [*UP, ("put", "z")])
        self.assertEqual((site.yard.parts, site.props), (("x", "y", "z"), ()))

    def test_items_that_are_no_deeds(self):
        for item in [*[item for item in NO_DEEDS if item != ("strike", "x")], *NO_STRIKES]:
            for deeds in ([("prop", "y"), item, ("put", "x")], (("prop", "y"), item)):
                site = Site(Yard(ARCH))
                self.no_deed(1, site.within, "x", deeds)
                self.assertEqual(site.log()[:2], [("prop", "x"), ("prop", "y")])
                self.assertEqual((site.yard.parts, site.props, len(site.log())), ((), (), 4))
                self.no_deed(1, site.trial, deeds)

    def test_deeds_that_cannot_be_done(self):
        for item in (("put", "y"), ("take", "y"), ("take", "x"), ("prop", "x"), ("unprop",)):
            self.no_deed(0, Site(Yard(ARCH)).within, "x", [item, ("put", "x")])
        for item in (("put", "x"), ("put", "y"), ("take", "z"), ("prop", "x"), ("unprop",)):
            site = Site(Yard(ARCH))
            self.no_deed(4, site.within, "x",
                         [("put", "x"), ("prop", "z"), ("put", "z"), ("unprop",), item, ("prop", "y")])
            self.assertEqual(len(site.log()), 6)
        site = Site(Yard(HUT, HUT.names))
        self.no_deed(1, site.within, "roof", [("take", "roof"), ("take", "left"), ("take", "right")])
        self.assertEqual(site.yard.parts, ("base", "left", "right"))

    def test_a_strike_of_a_part_that_is_not_there(self):
        site = Site(Yard(ARCH))
        self.assertEqual(site.within("x", [("strike", "y"), ("strike", "x")]), ())
        self.assertEqual(site.log(), [("prop", "x"), ("strike", "y", ()), ("strike", "x", ()), ("unprop", "x", ())])

    def test_an_unprop_in_between_need_not_be_careful(self):
        site = Site(Yard(HUT))
        self.assertEqual(site.within("roof", [("put", "roof"), ("prop", "left"), ("put", "left"), ("unprop",)]),
                         ("roof",))
        self.assertEqual(site.log()[-2:], [("unprop", "left", ("left",)), ("unprop", "roof", ("roof",))])

    def test_deeds_stay(self):
        deeds = list(UP)
        Site(Yard(ARCH)).within("x", deeds)
        self.assertEqual(deeds, UP)


    def test_parts_with_the_names_of_deeds(self):
        plan = Plan.read("unprop : put\nput : strike\nstrike : always\ntake : unprop\nprop : take\nundo : never")
        site = Site(Yard(plan))
        deeds = [("put", name) for name in ("strike", "put", "unprop", "take", "prop")]
        self.assertEqual(site.within("undo", [*deeds, ("take", "prop"), ("strike", "take"), ("strike", "strike")]), ())
        self.assertEqual(site.log()[-2:], [("strike", "strike", ("unprop", "put", "strike")), ("unprop", "undo", ())])
        self.assertEqual(site.trial(deeds[:3]).parts, ("unprop", "put", "strike"))
        self.no_deed(0, site.trial, [("unprop", "unprop")])
        self.no_deed(0, site.trial, [("undo",)])


class TestTrial(unittest.TestCase):
    def test_the_yard_after_the_last_deed(self):
        site = Site(Yard(ARCH))
        self.assertEqual(site.trial([("prop", "x"), ("put", "x")]), Yard(ARCH, ["x"]))
        self.assertEqual(site.trial(deeds=[("prop", "x"), ("put", "x"), ("unprop",)]), Yard(ARCH))
        self.assertEqual(site.trial(()), Yard(ARCH))
        self.assertIs(type(site.trial(())), Yard)
        self.assertEqual(state_of(site), ((), (), []))

    def test_under_props(self):
        site = Site(Yard(ARCH))
        site.prop("x")
        before = state_of(site)
        self.assertEqual(site.trial([("put", "x"), ("prop", "y"), ("unprop",)]), Yard(ARCH, ["x"]))
        for deeds, at in (([("unprop",)], 0), ([("put", "x"), ("prop", "y"), ("unprop",), ("unprop",)], 3),
                          ([("put", "x"), ("prop", "x")], 1), ([("take", "x")], 0), ([("put", "y")], 0),
                          ([("strike", "q")], 0)):
            with self.assertRaises(NoDeed) as caught:
                site.trial(deeds)
            self.assertEqual(caught.exception.at, at)
        self.assertEqual(state_of(site), before)
        self.assertEqual(site.props, ("x",))

    def test_undo_is_as_before(self):
        site = Site(Yard(ARCH))
        site.prop("x")
        site.trial([("put", "x"), ("strike", "x")])
        self.assertTrue(site.undo())
        self.assertEqual(site.props, ())
        self.assertFalse(site.undo())


class TestUndoAndLog(unittest.TestCase):
    def test_undo_takes_back_one_entry_after_another(self):
        for plan in PLANS:
            source = random.Random(repr(plan))
            site = Site(Yard(plan))
            states = []
            for _ in range(40):
                before = (site.yard, site.props, len(site.log()))
                outcome(site, *source.choice([("put", source.choice(plan.names)), ("prop", source.choice(plan.names)),
                                              ("strike", source.choice(plan.names)), ("unprop",)]))
                if len(site.log()) > before[2]:
                    states.append(before[:2])
            many = len(site.log())
            for yard, props in states[::-1]:
                self.assertIs(site.undo(), True)
                self.assertEqual((site.yard, site.props), (yard, props))
            self.assertIs(site.undo(), False)
            self.assertEqual(site.log()[many:], [("undo",)] * len(states))

    def test_undo_of_within(self):
        site = Site(Yard(ARCH))
        site.within("x", UP)
        site.undo()
        self.assertEqual((site.yard.parts, site.props), (("x", "y", "z"), ("x",)))
        self.assertEqual(site.unprop(), ())
        site.undo()
        site.undo()
        self.assertEqual(site.props, ("x", "y"))
        site.undo()
        self.assertEqual(site.yard.parts, ("x", "y"))
        self.assertEqual(site.log()[7:], [("undo",), ("unprop", "x", ()), ("undo",), ("undo",), ("undo",)])

    def test_undo_of_what_fell(self):
        site = Site(Yard(HUT, HUT.names))
        site.strike("base")
        self.assertIs(site.undo(), True)
        self.assertEqual(site.yard.parts, HUT.names)
        site.strike("base")
        site.strike("base")
        self.assertIs(site.undo(), True)
        self.assertEqual(site.yard.parts, ())
        self.assertIs(site.undo(), True)
        self.assertEqual(site.yard.parts, HUT.names)
        self.assertIs(site.undo(), False)
        self.assertEqual(site.log().count(("undo",)), 3)

    def test_deeds_after_an_undo(self):
        site = Site(Yard(HUT))
        site.put("base")
        site.undo()
        site.prop("left")
        site.put("left")
        for parts, props in (((), ("left",)), ((), ())):
            self.assertIs(site.undo(), True)
            self.assertEqual((site.yard.parts, site.props), (parts, props))
        self.assertIs(site.undo(), False)

    def test_the_log_is_a_new_list(self):
        site = Site(Yard(HUT))
        site.put("base")
        for _ in range(2):
            log = site.log()
            self.assertIs(type(log), list)
            log.clear()
            log.append(7)
        self.assertEqual(site.log(), [("put", "base")])


class TestCopiesAndSigns(unittest.TestCase):
    def test_a_copy_is_independent(self):
        site = Site(Yard(ARCH))
        site.prop("x")
        site.put("x")
        copied = site.copied()
        self.assertIs(type(copied), Site)
        self.assertEqual(state_of(copied), state_of(site))
        site.prop("y")
        self.assertEqual(state_of(copied), (("x",), ("x",), [("prop", "x"), ("put", "x")]))
        copied.undo()
        self.assertEqual(copied.log(), [("prop", "x"), ("put", "x"), ("undo",)])
        self.assertEqual((site.yard.parts, site.props), (("x",), ("x", "y")))
        self.assertEqual(site.log(), [("prop", "x"), ("put", "x"), ("prop", "y")])
        self.assertEqual([copied.undo(), copied.undo()], [True, False])
        self.assertEqual([site.undo(), site.undo(), site.undo(), site.undo()], [True, True, True, False])

    def test_the_yard_that_was_passed_stays(self):
        yard = Yard(HUT, HUT.names)
        site = Site(yard)
        kept = site.yard
        site.strike("base")
        self.assertEqual((yard.parts, kept.parts, site.yard.parts), (HUT.names, HUT.names, ()))

    def test_equal_sites(self):
        site, other = Site(Yard(ARCH)), Site(Yard(ARCH))
        self.assertTrue(site == other)
        site.prop("x")
        site.prop("y")
        other.prop("y")
        self.assertFalse(site == other)
        other.prop("x")
        self.assertFalse(site == other)
        self.assertTrue(site != other)
        other.unprop()
        other.unprop()
        other.prop("x")
        other.prop("y")
        self.assertTrue(site == other)
        self.assertFalse(site != other)
        site.put("x")
        self.assertFalse(site == other)
        again = Plan([(name, ARCH.rule(name)) for name in ARCH.names])
        self.assertTrue(Site(Yard(ARCH)) == Site(Yard(again)))
        self.assertFalse(Site(Yard(ARCH)) == Site(Yard(HUT)))

    def test_a_site_is_not_equal_to_anything_else(self):
        site = Site(Yard(ARCH))
        for other in (None, True, 0, "", (), [], Yard(ARCH), ARCH, "Site(0 parts, 0 props)", Rule.of_sets([])):
            self.assertFalse(site == other)
            self.assertTrue(site != other)
        self.assertIs(site.__eq__(EqualToAll()), False)

    def test_len_and_repr(self):
        site = Site(Yard(HUT))
        self.assertEqual((len(site), repr(site)), (0, "Site(0 parts, 0 props)"))
        site.put("base")
        site.prop("left")
        self.assertEqual((len(site), repr(site)), (1, "Site(1 parts, 1 props)"))
        site.put("left")
        site.prop("roof")
        self.assertEqual((len(site), repr(site)), (2, "Site(2 parts, 2 props)"))

    def test_eight_parts(self):
        site = Site(Yard(EIGHT))
        for name in EIGHT.names[:4]:
            site.prop(name)
            site.put(name)
        for name in EIGHT.names[4:]:
            site.put(name)
        self.assertEqual([site.unprop() for _ in range(4)], [()] * 4)
        self.assertEqual(repr(site), "Site(8 parts, 0 props)")
        self.assertEqual(site.strike("a"), ("a",))
        self.assertEqual(site.strike("h"), ("h",))
        self.assertEqual(site.strike("e"), ("e",))
        self.assertEqual(len(site.strike("f")), 5)

    def test_a_part_that_is_never_supported(self):
        plan = Plan([("a", Never())])
        site = Site(Yard(plan))
        self.assertEqual(site.within("a", [("put", "a")]), ("a",))
        self.assertEqual(len(site), 0)

    def test_properties_cannot_be_assigned(self):
        site = Site(Yard(ARCH))
        for word in ("yard", "props"):
            with self.assertRaises(AttributeError):
                setattr(site, word, ())


if __name__ == "__main__":
    unittest.main()
