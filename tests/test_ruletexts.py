"""Promises [15] and [16], with the limits of [3] on texts."""

import time
import unittest

from nestprops.errors import NoText
from nestprops.rules import All, Always, AtLeast, Needs, Never, Rule, Some
from nestprops.ruletexts import show_rule
from tests.helpers import built, of_sets, shapes, text_of

A, B, C = Needs("a"), Needs("b"), Needs("c")
NAMES = ("b", "a", "ab", "d", "c")


class TestShowRule(unittest.TestCase):
    def test_each_form(self):
        self.assertEqual(show_rule(Never()), "never")
        self.assertEqual(show_rule(Always()), "always")
        self.assertEqual(show_rule(Needs("roof")), "roof")
        self.assertEqual(show_rule(All(B, A)), "all ( a , b )")
        self.assertEqual(show_rule(Some(B, A)), "any ( a , b )")
        self.assertEqual(show_rule(All(C, B, A)), "all ( a , b , c )")

    def test_texts_of_least_sets_stand_in_their_order(self):
        rule = of_sets("ca", "dcb", "ab", "e")
        self.assertEqual(show_rule(rule), "any ( e , all ( a , b ) , all ( a , c ) , all ( b , c , d ) )")

    def test_argument_by_name_and_base_rules(self):
        self.assertEqual(show_rule(rule=A & B), "all ( a , b )")
        self.assertEqual(show_rule(A.given("a")), "always")
        self.assertEqual(show_rule(A.lacking("a")), "never")

    def test_same_result_again(self):
        rule = AtLeast(2, A, B, C)
        self.assertEqual(show_rule(rule), show_rule(rule))


class TestRead(unittest.TestCase):
    def test_document_example(self):
        self.assertEqual(show_rule(Rule.read("2 of ( a , b , always )")), "any ( a , b )")

    def test_each_form(self):
        for text, rule in (
            ("always", Always()),
            ("never", Never()),
            ("a", A),
            ("abcdef", Needs("abcdef")),
            ("all ( a )", A),
            ("any ( a )", A),
            ("1 of ( a )", A),
            ("all ( a , b )", All(A, B)),
            ("any ( a , b )", Some(A, B)),
            ("2 of ( a , b , c )", AtLeast(2, A, B, C)),
            ("0 of ( a )", Always()),
            ("0 of ( never )", Always()),
            ("2 of ( a )", Never()),
            ("8 of ( a , b )", Never()),
            ("all ( always , a )", A),
            ("any ( always , a )", Always()),
            ("all ( never , a )", Never()),
            ("any ( never , a )", A),
            ("any ( all ( a , b ) , 2 of ( a , b , c ) , d )", AtLeast(2, A, B, C) | Needs("d")),
            ("2 of ( a , a , b )", A),
        ):
            read = Rule.read(text)
            self.assertIs(type(read), Rule)
            self.assertEqual(read.least, rule.least, text)
            self.assertEqual(Rule.read(text=text), rule)

    def test_each_count(self):
        names = "abcdefgh"
        words = " , ".join(names)
        for count in range(9):
            rule = AtLeast(count, *[Needs(name) for name in names])
            self.assertEqual(Rule.read(f"{count} of ( {words} )"), rule)

    def test_nested_six_deep(self):
        text = "a"
        for word in ("all", "any", "1 of", "all", "any", "1 of"):
            text = f"{word} ( {text} )"
        self.assertEqual(Rule.read(text), A)
        self.assertEqual(self.error_at(text[:-2]), 20)

    def test_random_texts(self):
        for shape in shapes(NAMES, 200, 5):
            self.assertEqual(Rule.read(text_of(shape)).least, built(shape).least, text_of(shape))

    def test_what_is_shown_can_be_read(self):
        rules = [built(shape) for shape in shapes(NAMES, 200, 6)]
        rules += [Always(), Never(), AtLeast(4, *[Needs(name) for name in "abcdefgh"])]
        for rule in rules:
            self.assertEqual(Rule.read(show_rule(rule)), rule)
            self.assertEqual(show_rule(Rule.read(show_rule(rule))), show_rule(rule))

    def error_at(self, text):
        with self.assertRaises(NoText) as caught:
            Rule.read(text)
        self.assertIs(type(caught.exception.at), int)
        return caught.exception.at

    def check(self, *cases):
        for text, at in cases:
            self.assertEqual(self.error_at(text), at, text)

    def test_document_error(self):
        self.check(("all ( a , )", 4))

    def test_wrong_first_words(self):
        self.check(("of", 0), ("none", 0), ("(", 0), (")", 0), (",", 0), (":", 0), ("9", 0), ("10 of ( a )", 0),
                   ("9 of ( a )", 0), ("01 of ( a )", 0), ("-1 of ( a )", 0), ("12 of ( a )", 0), ("a(", 0),
                   ("abcdefg", 0), ("A", 0), ("aB", 0), ("a1", 0), ("a_b", 0), ("Always", 0), ("ALL ( a )", 0))

    def test_wrong_words_behind_a_rule(self):
        self.check(("a b", 1), ("a ,", 1), ("a )", 1), ("always (", 1), ("never never", 1), ("a of ( b )", 1),
                   ("all ( a ) b", 4), ("all ( a ) )", 4), ("any ( a ) , b", 4), ("2 of ( a ) always", 5))

    def test_wrong_words_in_front_of_parentheses(self):
        self.check(("all a", 1), ("any any", 1), ("all of ( a )", 1), ("all )", 1), ("2 ( a )", 1), ("2 a", 1),
                   ("2 2 of ( a )", 1), ("2 of a", 2), ("2 of of", 2), ("2 of )", 2), ("0 of ,", 2))

    def test_wrong_words_in_parentheses(self):
        self.check(("all ( )", 2), ("any ( )", 2), ("2 of ( )", 3), ("0 of ( )", 3), ("all ( , a )", 2),
                   ("all ( a b )", 3), ("all ( a , , b )", 4), ("all ( a , b ( )", 5), ("all ( a ( b ) )", 3),
                   ("all ( ( a ) )", 2), ("all ( a , of )", 4), ("any ( a , 9 )", 4), ("any ( none )", 2),
                   ("all ( any ( a , ) , b )", 6), ("all ( 2 of ( a , ) )", 7), ("all ( 2 ( a ) )", 3))

    def test_missing_words(self):
        self.check(("all", 1), ("any", 1), ("2", 1), ("8", 1), ("2 of", 2), ("all (", 2), ("2 of (", 3),
                   ("all ( a", 3), ("all ( a ,", 4), ("all ( a , b", 5), ("all ( any ( a )", 6),
                   ("all ( 2", 3), ("all ( 2 of", 4), ("all ( any", 3))

    def test_empty_words(self):
        self.check(("", 0), (" ", 0), ("  ", 0), (" a", 0), ("a ", 1), ("a  ", 1), ("all  ( a )", 1),
                   ("all (  a )", 2), ("all ( a  , b )", 3), ("all ( a ,  b )", 4), ("all ( a  )", 3),
                   ("all ( a ) ", 4), ("all ( a )  ", 4), ("2  of ( a )", 1), ("2 of  ( a )", 2), ("always ", 1),
                   ("all ", 1), ("2 ", 1), ("all ( ", 2), ("all ( a ", 3), ("all ( a , ", 4))

    def test_newlines_do_not_separate_words(self):
        self.check(("a\n", 0), ("\na", 0), ("\n", 0), ("a\nb", 0), ("all ( a\n, b )", 2), ("all ( a )\n", 3))

    def test_first_of_several_errors(self):
        self.check(("all ( , ) )", 2), ("a b c", 1), ("9 of ( of )", 0), ("all ( a b , , )", 3))

    def test_ten_rules_and_eight_open_parentheses_in_a_wrong_text(self):
        ten = " , ".join("abcdefghij")
        self.check((f"all ( {ten} ) x", 22), (f"all ( {ten}", 21), (f"all ( {ten} ,", 22))
        deep = "all ( " * 8
        self.check((deep.strip(), 16), (deep + "a , of", 18), (deep + ")", 16))

    def test_a_wrong_text_with_many_least_sets_takes_no_long_time(self):
        letters = "abcdefghij"
        calls = [" , ".join(first + second for second in letters) for first in letters]
        text = "all ( " + " , ".join(f"any ( {call} )" for call in calls) + " )"
        self.assertLessEqual(len(text), 2000)
        begun = time.perf_counter()
        self.check((text + " ", len(text.split(" "))), (text[:-2], len(text.split(" ")) - 1))
        self.assertLess(time.perf_counter() - begun, 5)

    def test_a_long_text(self):
        part = "2 of ( a , b , c , d , e , f , g , h )"
        text = "all ( " + " , ".join([f"any ( {' , '.join([part] * 8)} )"] * 5) + " )"
        self.assertLessEqual(len(text), 2000)
        self.assertEqual(Rule.read(text), Rule.read(part))

    def test_same_result_again(self):
        for text in ("2 of ( a , b , c )", "always", "never"):
            self.assertEqual(Rule.read(text), Rule.read(text))
        self.check(("all ( a , )", 4), ("all ( a , )", 4))


if __name__ == "__main__":
    unittest.main()
