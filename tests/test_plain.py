"""Promise 1: the plain form."""

import random
import unittest

from arraytexts import programs
from helper import as_bytes, form_of, loose_of, made_programs, plain


class Plain(unittest.TestCase):
    def check(self, words, form):
        self.assertEqual(plain(words), form, words)
        self.assertEqual(plain(form), form, form)

    def test_the_documents_examples(self):
        self.check("a:=3;( 2*a)+ Iota 4", "a := 3; (2 * a) + Iota 4")
        self.check("1 - - _2", "1 - - _2")
        self.check("F := {x + y}; 1 F:table 2 3", "F := {x + y}; 1 F:table 2 3")
        self.check("1_2", "1 _2")
        self.check("+:at 1 2 3", "+:at 1 2 3")
        self.check("+:fold 2 * Iota 10", "+:fold 2 * Iota 10")

    def test_numbers_and_names(self):
        self.check("0", "0")
        self.check("  1\t2\r\n_3  ", "1 2 _3")
        self.check("_1000000000000000000 1000000000000000000", "_1000000000000000000 1000000000000000000")
        self.check("aB3#c", "aB3")

    def test_blanks_around_functions(self):
        self.check("-1", "- 1")
        self.check("1-1", "1 - 1")
        self.check("1<=2", "1 <= 2")
        self.check("1< =2", "1 < = 2")
        self.check("1/=2*3=4<5-6+7", "1 /= 2 * 3 = 4 < 5 - 6 + 7")
        self.check("1Max 2", "1 Max 2")

    def test_parentheses_are_kept_at_a_left_function_of_one_or_two_alone(self):
        self.check("(1+2)*3", "(1 + 2) * 3")
        self.check("(-2)*3", "(- 2) * 3")
        self.check("1+(2*3)", "1 + 2 * 3")
        self.check("-(1+2)", "- 1 + 2")
        self.check("((1 2))+((a))", "1 2 + a")
        self.check("(((1+2)))", "1 + 2")
        self.check("((1+2)+3)+4", "((1 + 2) + 3) + 4")
        self.check("{(x+y)} 1", "{x + y} 1")
        self.check("{(x)+y}({x} 1)", "{x + y} {x} 1")
        self.check("({x}1)+1", "({x} 1) + 1")

    def test_modified_functions(self):
        self.check("+ :fold 1", "+:fold 1")
        self.check("1+:table:swap 2", "1 +:table:swap 2")
        self.check("{x} :scan 1", "{x}:scan 1")
        self.check("Iota:at 0:at 5(1)", "Iota:at 0:at 5 1")
        self.check("1 Join:at\n3:fold _2", "1 Join:at 3:fold _2")

    def test_statements(self):
        self.check("F:=+:fold;a:=F 1;a", "F := +:fold; a := F 1; a")
        self.check("F:={x};G:=F:at 1;G(1)", "F := {x}; G := F:at 1; G 1")
        self.check("a:=(1);b:=(a+a);b", "a := 1; b := a + a; b")
        self.check("# first\na := 1 ; # last\na # no more", "a := 1; a")

    def test_a_plain_form_of_2048_and_of_more_bytes(self):
        form = plain("12" + "_1" * 682)
        self.assertEqual(form, "12" + " _1" * 682)
        self.assertEqual(len(form), 2048)
        self.assertEqual(plain("123" + "_1" * 682), -8)
        self.assertEqual(plain("1" + "_1" * 1023), -8)
        self.assertEqual(plain("a:=1;" + "".join(f"a{number}:=a;" for number in range(200)) + "a"), -8)

    def test_a_long_text_may_have_a_short_form(self):
        self.assertEqual(plain(" " * 2047 + "1"), "1")

    def test_refusals(self):
        refusals = {
            " " * 2049: -1, "$": -2, "": -3, "1 +": -3, "(" * 30: -4, "x": -5, "Foo 1": -5, "a := a; a": -6,
            "-" * 40 + "1": -7, "-" * 2047 + "1": -7, "_" + "1_" * 1023 + "1": -8,
        }
        for words, refusal in refusals.items():
            self.assertEqual(plain(words), refusal, words)

    def test_reading_refuses_first(self):
        self.assertEqual(plain("1" + "_1" * 1000 + "+"), -3)
        self.assertEqual(plain("1" + "_1" * 1000 + "+x"), -5)
        self.assertEqual(plain("1" + "_1" * 900 + "-" * 40 + "1"), -7)

    def test_what_is_handed_in_and_given_back(self):
        for words in ["a:=3;( 2*a)+ Iota 4", "1 +", "1" + "_1" * 1000]:
            text = as_bytes(words)
            answer = programs.plain(text)
            self.assertEqual(text, as_bytes(words))
            self.assertIs(type(answer), list)
            self.assertEqual({type(number) for number in answer}, {int})
            self.assertEqual(programs.plain(text), answer)


class Spread(unittest.TestCase):
    """Programs made at random, with blanks, comments and parentheses spread over them."""

    def test_programs(self):
        source = random.Random(20)
        seen = 0
        for program in made_programs(source, 6000):
            loose, form = loose_of(program, source), form_of(program)
            if len(loose) > 2048:
                continue
            seen += 1
            self.assertEqual(plain(loose), form if len(form) <= 2048 else -8, loose)
            if len(form) <= 2048:
                self.assertEqual(plain(form), form)
        self.assertGreater(seen, 5000)


if __name__ == "__main__":
    unittest.main()
