"""Promise [48], with [2], [3], [11], [16], [18], [20] and [40] to [46]."""

import random
import time
import unittest

from nestprops.desk import Desk
from nestprops.errors import Falls, NoPart, NoPlan, NoProp, NoRow, NoText, YardError
from nestprops.growth import grown
from nestprops.joined import depth_between
from nestprops.plantexts import show_plan
from nestprops.scripts import depth_of, script_holds
from nestprops.sites import Site
from nestprops.yards import Yard
from nestprops.yardtexts import show_yard
from tests import model
from tests.model import ARCH, EIGHT, HUT

PLANS = [ARCH, HUT, *model.random_plans(12, "desk"), *model.knotted_plans(12, "desk")]
SIX = [model.ring("fedcba", count) for count in range(6)] + model.knotted_plans(4, "six desk", 6, 6)
# Rows that need a site, one of each form.
ROWS = ("put x", "take x", "prop x", "strike x", "unprop", "undo", "yard", "props", "grow 0", "depth none",
        "rest none", "way 0 none")


def plan_row(plan):
    return "plan " + show_plan(plan).replace("\n", " ; ")


def desk_of(plan, *rows):
    """Return a desk that was told a plan and rows."""
    desk = Desk()
    for row in (plan_row(plan), *rows):
        desk.say(row)
    return desk


def deeds_told(text):
    """Return the deeds of the answer to a row `way`."""
    return () if text == "here" else tuple(tuple(deed.split(" ")) for deed in text.split(" , "))


def state_of(desk):
    """Return what a desk tells of its site."""
    return desk.say("yard"), desk.say("props"), len(desk)


def names_text(names):
    return " ".join(names) if names else "none"


def answer(site, row):
    """Return what a desk with a site has to answer to a row of a listed form, from the words of [48]."""
    words = row.split(" ")
    if words[0] in ("put", "take", "prop"):
        getattr(site, words[0])(words[1])
        return "done"
    if words[0] == "strike":
        return names_text(site.strike(words[1]))
    if words[0] == "unprop":
        return names_text(site.unprop())
    if words[0] == "undo":
        return "undone" if site.undo() else "nothing"
    if words[0] in ("yard", "props"):
        return names_text(site.yard.parts if words[0] == "yard" else site.props)
    if words[0] == "grow":
        return names_text(grown(site.yard, depth=int(words[1]), props=site.props).parts)
    if words[0] == "depth" and site.props:
        raise NoRow()
    other = Yard.read(site.yard.plan, " ".join(words[1:]))
    return str(depth_between(site.yard, other)) if words[0] == "depth" else names_text(other.rest.parts)


def random_row(source, plan):
    word = source.choice(["put", "put", "put", "take", "prop", "strike", "unprop", "undo", "yard", "props", "grow",
                          "depth", "rest"])
    if word in ("put", "take", "prop", "strike"):
        return f"{word} {source.choice([*plan.names, *plan.names, 'q'])}"
    if word == "grow":
        return f"{word} {source.randint(0, 5)}"
    if word in ("depth", "rest"):
        words = source.sample(plan.names, source.randint(0, len(plan)))
        return f"{word} {' '.join(source.choice([words, words, [*words, 'q'], [*words, *words[:1]]])) or 'none'}"
    return word


def outcome(call, *arguments):
    """Return what a call returns, or the error that it raises, with what it keeps."""
    try:
        return "value", call(*arguments)
    except (YardError, NoPart) as error:
        return type(error).__name__, vars(error)


class DeskCase(unittest.TestCase):
    def no_row(self, desk, *rows):
        for row in rows:
            with self.assertRaises(NoRow, msg=repr(row)):
                desk.say(row)

    def raises(self, error, desk, row):
        with self.assertRaises(type(error), msg=row) as caught:
            desk.say(row)
        self.assertEqual(vars(caught.exception), vars(error), row)

    def dialog(self, desk, *pairs):
        for row, expected in pairs:
            self.assertEqual(desk.say(row), expected, row)
            self.assertIs(type(desk.say("yard")), str)


class TestDialogs(DeskCase):
    def test_arch(self):
        desk = Desk()
        self.dialog(
            desk, ("plan x : all ( y , z ) ; y : all ( x , z ) ; z : all ( x , y )", "3 parts"), ("yard", "none"),
            ("props", "none"),
            ("grow 0", "none"), ("grow 1", "none"), ("grow 2", "x y z"), ("depth z x y", "2"), ("depth none", "0"),
            ("way 1 x y z", "never"), ("way 5 none", "here"), ("rest x y", "none"), ("rest z y x", "x y z"),
            ("prop x", "done"),
            ("put x", "done"), ("grow 0", "x"), ("grow 1", "x y z"), ("prop z", "done"), ("props", "x z"),
            ("put z", "done"), ("yard", "x z"),
            ("put y", "done"), ("unprop", "none"), ("strike z", "y z"), ("yard", "x"), ("unprop", "x"),
            ("strike x", "none"),
            ("undo", "undone"), ("undo", "undone"), ("yard", "x"), ("props", "x"), ("undo", "undone"),
            ("yard", "x y z"))
        self.assertEqual(len(desk), 3)

    def test_every_row_by_meaning(self):
        source = random.Random("rows")
        seen = {}
        for plan in PLANS:
            for _ in range(3):
                desk, site = desk_of(plan), Site(Yard(plan))
                for _ in range(50):
                    row = random_row(source, plan)
                    result = outcome(desk.say, row)
                    self.assertEqual(result, outcome(answer, site, row), (plan, row))
                    self.assertEqual(state_of(desk), (show_yard(site.yard), names_text(site.props), len(site)))
                    key = (row.split(" ")[0], result[0])
                    seen[key] = seen.get(key, 0) + 1
        for key in (("put", "Falls"), ("take", "value"), ("unprop", "NoProp"), ("depth", "NoRow"), ("depth", "NoText"),
                    ("depth", "value"), ("rest", "NoText"), ("strike", "NoPart"), ("grow", "value")):
            self.assertGreater(seen[key], 10, key)

    def test_way(self):
        source = random.Random("way")
        for plan in [*PLANS, *SIX]:
            yards = model.standing(plan)
            for _ in range(4):
                desk = desk_of(plan)
                begun, goal = [Yard(plan, sorted(source.choice(yards))) for _ in range(2)]
                way = desk.say(f"way 5 {show_yard(begun)}")
                if way == "never":
                    continue
                for deed in deeds_told(way):
                    desk.say(" ".join(deed))
                self.assertEqual(state_of(desk), (show_yard(begun), "none", len(begun)))
                depth = desk.say(f"depth {show_yard(goal)}")
                self.assertEqual(depth, str(depth_between(begun, goal)))
                for most in range(6):
                    way = desk.say(f"way {most} {show_yard(goal)}")
                    self.assertEqual(way == "never", most < int(depth), (plan, begun, goal))
                    self.assertEqual(way == "here", begun == goal)
                    if way != "never":
                        self.assertTrue(script_holds(begun, goal, most, deeds_told(way)))
                        self.assertLessEqual(depth_of(deeds_told(way)), most)

    def test_way_in_words(self):
        desk = desk_of(HUT)
        self.assertEqual(desk.say("way 0 base"), "put base")
        words = desk.say("way 1 base right left").split(" , ")
        self.assertIn("unprop", words)
        self.assertIn("put base", words)
        self.assertEqual(state_of(desk), ("none", "none", 0))


class TestForms(DeskCase):
    def test_values_that_are_no_strings(self):
        for desk in (Desk(), desk_of(ARCH)):
            self.no_row(desk, None, True, False, 0, 1, (), ("yard",), ("put", "x"), (("put", "x"),), [], ["yard"],
                        b"yard", {})

    def test_newlines(self):
        for desk in (Desk(), desk_of(ARCH)):
            self.no_row(desk, "\n", "yard\n", "\nyard", "put x\n", "put\nx", "plan a : always\nb : always",
                        "plan a : always\n",
                        "rest x\ny", "way 1 x\n", "undo\nundo")

    def test_empty_words(self):
        for desk in (Desk(), desk_of(ARCH)):
            self.no_row(desk, "", " ", "  ", "yard ", " yard", "put  x", "put x ", "put ", " put x", "rest  x",
                        "rest x ", "rest ", "rest",
                        "grow  1", "grow 1 ", "way 1  x", "way 1 x ", "way 1 ", "plan a :  always", "plan  a : always",
                        "plan a : always ", "plan ", "plan a : always ;  b : always", "depth x  y", "depth ")

    def test_other_forms(self):
        for desk in (Desk(), desk_of(ARCH)):
            self.no_row(
                desk, "log", "put", "take", "prop", "strike", "put x y", "take x y", "prop x x", "strike x y",
                "unprop x", "undo 1",
                "yard none", "props x", "grow", "grow 9", "grow -1", "grow 10", "grow 00", "grow x", "grow 1 1",
                "grow 1 none", "grow 1.",
                "depth", "rest", "way", "way 1", "way x", "way none", "way 6 x", "way 9 none", "way 01 none", "way 12",
                "way x 1",
                "way - x", "plan", "Put x", "PUT x", "yards", "un prop", "x", "none", "put,x", "within x", "trial",
                "copied", "say yard",
                "done", "desk", "; yard", "yard ; yard", "yard ; props")

    def test_names(self):
        for desk in (Desk(), desk_of(ARCH)):
            for word in ("put", "take", "prop", "strike"):
                for name in ("X", "x1", "none", "all", "any", "of", "always", "never", "abcdefg", "1", "x,", "-",
                             "x_y", "(", ":"):
                    self.no_row(desk, f"{word} {name}")

    def test_no_site(self):
        desk = Desk()
        self.no_row(desk, *ROWS, "put q", "depth q", "rest  q", "way 5 x", "grow 8", "rest q q")
        self.assertEqual(len(desk), 0)

    def test_depth_and_way_while_there_are_props(self):
        desk = desk_of(ARCH, "prop x")
        self.no_row(desk, "depth none", "depth x", "depth q", "way 0 none", "way 5 x", "way 3 q", "depth x x")
        self.dialog(desk, ("rest x", "none"), ("grow 8", "x y z"), ("unprop", "none"), ("depth none", "0"),
                    ("way 0 none", "here"))

    def test_each_digit(self):
        desk = desk_of(ARCH)
        for depth in range(9):
            self.assertEqual(desk.say(f"grow {depth}"), "x y z" if depth > 1 else "none")
        for depth in range(6):
            self.assertEqual(desk.say(f"way {depth} x y z") == "never", depth < 2)

    def test_say_by_name(self):
        desk = Desk()
        self.assertEqual(desk.say(row="plan a : always"), "1 parts")
        self.assertEqual(desk.say(row="way 0 a"), "put a")


class TestPlanRows(DeskCase):
    def test_each_plan(self):
        for plan in [*PLANS, *SIX]:
            desk = Desk()
            self.assertEqual(desk.say(plan_row(plan)), f"{len(plan)} parts")
            self.assertEqual(state_of(desk), ("none", "none", 0))
            self.assertEqual(desk.say("grow 0"), show_yard(grown(Yard(plan))))
        self.assertEqual(Desk().say("plan b : 2 of ( a , always , never ) ; a : any ( never , all ( b ) )"), "2 parts")

    def test_eight_parts_and_the_ninth_row(self):
        desk = Desk()
        row = "plan " + " ; ".join(f"{name} : always" for name in "abcdefgh")
        self.assertEqual(desk.say(row), "8 parts")
        self.raises(NoText(8), desk, row + " ; i : always")
        self.raises(NoText(8), desk, row + " ; x")

    def test_separators_are_taken_from_the_left(self):
        desk = Desk()
        for row, at in (("a : always ; ; b : always", 1), ("a : always ; ; ; b : always", 1), ("; a : always", 0),
                        ("a : always ;", 0),
                        (";", 0), ("; ;", 0), ("; ; ;", 0), ("a ; : always", 0), ("a : always ; b : always ;", 1),
                        ("a : always ;b : always", 0)):
            self.raises(NoText(at), desk, "plan " + row)

    def test_texts_that_are_no_plans(self):
        desk = Desk()
        for row, at in (("a", 0), ("a :", 0), ("a always", 0), ("a : b , c", 0), ("all : always", 0),
                        ("a : always ; a : never", 1),
                        ("a : always ; b : all ( a", 1), ("a : 9 of ( a )", 0), ("a : all ( b , ) ; b : always", 0),
                        ("none", 0)):
            self.raises(NoText(at), desk, "plan " + row)
        for row, at in (("a : a", 0), ("a : b", 0), ("a : always ; b : any ( a , c )", 1),
                        ("a : b ; b : all ( a , b )", 1)):
            self.raises(NoPlan("rule", at), desk, "plan " + row)
        self.raises(NoText(2), desk, "plan a : a ; b : b ; c")
        self.assertEqual(len(desk), 0)
        self.no_row(desk, "yard")

    def test_a_new_plan_forgets_everything(self):
        desk = desk_of(HUT, "put base", "prop left", "put left")
        self.assertEqual(desk.say(plan_row(ARCH)), "3 parts")
        self.assertEqual(state_of(desk), ("none", "none", 0))
        self.assertEqual(desk.say("undo"), "nothing")
        self.raises(NoPart("base"), desk, "put base")
        self.raises(NoProp(), desk, "unprop")

    def test_the_same_plan_again_forgets_everything_too(self):
        desk = desk_of(HUT, "put base", "prop left")
        desk.say(plan_row(HUT))
        self.dialog(desk, ("yard", "none"), ("props", "none"), ("undo", "nothing"), ("depth base", "0"))


class TestErrors(DeskCase):
    def test_errors_of_the_methods(self):
        desk = desk_of(HUT)
        for word in ("put", "take", "prop", "strike"):
            self.raises(NoPart("q"), desk, f"{word} q")
        self.raises(Falls(("left",)), desk, "put left")
        self.raises(Falls(()), desk, "take left")
        self.raises(NoProp(), desk, "unprop")
        desk.say("put base")
        desk.say("prop left")
        desk.say("put left")
        self.raises(Falls(()), desk, "prop left")
        self.raises(Falls(()), desk, "put base")
        desk.say("put right")
        self.raises(Falls(("right",)), desk, "take base")

    def test_texts_of_yards(self):
        desk = desk_of(HUT)
        for row, at in (("q", 0), ("base q", 1), ("base base", 1), ("none base", 0), ("base none", 1),
                        ("none none", 0), ("base , left", 1),
                        ("roof left left", 2)):
            for head in ("depth", "rest", "way 0", "way 5"):
                self.raises(NoText(at), desk, f"{head} {row}")

    def test_yards_that_do_not_stand(self):
        desk = desk_of(HUT)
        for head in ("depth", "way 0", "way 5"):
            self.raises(Falls(("left", "roof")), desk, f"{head} roof left base")
        self.assertEqual(desk.say("rest roof left base"), "base")

    def test_a_row_that_raises_an_error_changes_nothing(self):
        wrong = ["put q", "take q", "put z", "take z", "prop x", "grow 9", "depth none", "way 0 none", "rest q",
                 "plan a", "plan a : a", "", None,
                 "plan a : always ; a : always", "strike q", "yard ", "put x"]
        desk = desk_of(ARCH, "prop x", "put x")
        for row in wrong:
            self.assertNotEqual(outcome(desk.say, row)[0], "value", row)
            self.assertEqual(state_of(desk), ("x", "x", 1), row)
        self.dialog(desk, ("undo", "undone"), ("yard", "none"), ("undo", "undone"), ("props", "none"),
                    ("undo", "nothing"))

    def test_no_row_comes_first(self):
        self.no_row(Desk(), "rest q", "put q", "depth q q")
        self.no_row(desk_of(ARCH, "prop x"), "depth q", "way 0 q")


class TestDesk(DeskCase):
    def test_len(self):
        desk = Desk()
        self.assertEqual(len(desk), 0)
        desk = desk_of(HUT)
        for row, many in (("put base", 1), ("prop left", 1), ("put left", 2), ("put right", 3), ("put roof", 4),
                          ("strike base", 1), ("undo", 4)):
            desk.say(row)
            self.assertEqual(len(desk), many)

    def test_desks_are_independent(self):
        one, other = desk_of(ARCH), desk_of(ARCH)
        one.say("prop x")
        self.assertEqual((one.say("props"), other.say("props")), ("x", "none"))

    def test_rows_that_ask_change_nothing(self):
        desk = desk_of(HUT, "put base")
        rows = ("yard", "props", "grow 3", "depth none", "rest left", "way 2 roof base left right", "way 0 none")
        before = [desk.say(row) for row in rows]
        self.assertEqual([desk.say(row) for row in rows], before)
        self.assertEqual([desk.say("undo"), desk.say("undo")], ["undone", "nothing"])

    def test_parts_with_the_names_of_rows(self):
        desk = Desk()
        desk.say("plan put : undo ; undo : plan ; plan : always ; yard : put ; done : never ; way : unprop ; unprop : always")
        self.dialog(desk, ("put plan", "done"), ("put undo", "done"), ("put put", "done"), ("put yard", "done"),
                    ("yard", "put undo plan yard"),
                    ("prop done", "done"), ("unprop", "none"), ("strike plan", "put undo plan yard"),
                    ("depth way unprop", "0"))

    def test_limits(self):
        begun = time.monotonic()
        for plan in SIX:
            desk = desk_of(plan)
            full = show_yard(grown(Yard(plan), depth=6))
            for row in ("grow 8", f"depth {full}", f"way 5 {full}", f"rest {full}"):
                self.assertIs(type(desk.say(row)), str)
        desk = desk_of(EIGHT)
        for row in ("grow 2", "way 2 a b c d e f g h", "rest a b c d e f g"):
            desk.say(row)
        self.assertLess(time.monotonic() - begun, 20)


if __name__ == "__main__":
    unittest.main()
