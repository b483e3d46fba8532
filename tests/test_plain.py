"""Promise 1: the plain form."""

import random
import unittest

from arraytexts import programs
from helper import as_bytes, plain


class Plain(unittest.TestCase):
    def check(self, words, form):
        self.assertEqual(plain(words), form, words)
        self.assertEqual(plain(form), form, form)

    def test_the_documents_examples(self):
        self.check("a:=3;( 2*a)+ Iota 4", "a := 3; (2 * a) + Iota 4")
        self.check("1 - - _2", "1 - - _2")
        self.check("F := {x + y}; 1 F:table 2 3", "F := {x + y}; 1 F:table 2 3")
        self.check("1_2", "1 _2")
        self.check("+:at 1 2 3", "+:at 1 2 3")
        self.check("+:fold 2 * Iota 10", "+:fold 2 * Iota 10")

    def test_numbers_and_names(self):
        self.check("0", "0")
        self.check("  1\t2\r\n_3  ", "1 2 _3")
        self.check("_1000000000000000000 1000000000000000000", "_1000000000000000000 1000000000000000000")
        self.check("aB3#c", "aB3")

    def test_blanks_around_functions(self):
        self.check("-1", "- 1")
        self.check("1-1", "1 - 1")
        self.check("1<=2", "1 <= 2")
        self.check("1< =2", "1 < = 2")
        self.check("1/=2*3=4<5-6+7", "1 /= 2 * 3 = 4 < 5 - 6 + 7")
        self.check("1Max 2", "1 Max 2")

    def test_parentheses_are_kept_at_a_left_function_of_one_or_two_alone(self):
        self.check("(1+2)*3", "(1 + 2) * 3")
        self.check("(-2)*3", "(- 2) * 3")
        self.check("1+(2*3)", "1 + 2 * 3")
        self.check("-(1+2)", "- 1 + 2")
        self.check("((1 2))+((a))", "1 2 + a")
        self.check("(((1+2)))", "1 + 2")
        self.check("((1+2)+3)+4", "((1 + 2) + 3) + 4")
        self.check("{(x+y)} 1", "{x + y} 1")
        self.check("{(x)+y}({x} 1)", "{x + y} {x} 1")
        self.check("({x}1)+1", "({x} 1) + 1")

    def test_modified_functions(self):
        self.check("+ :fold 1", "+:fold 1")
        self.check("1+:table:swap 2", "1 +:table:swap 2")
        self.check("{x} :scan 1", "{x}:scan 1")
        self.check("Iota:at 0:at 5(1)", "Iota:at 0:at 5 1")
        self.check("1 Join:at\n3:fold _2", "1 Join:at 3:fold _2")

    def test_statements(self):
        self.check("F:=+:fold;a:=F 1;a", "F := +:fold; a := F 1; a")
        self.check("F:={x};G:=F:at 1;G(1)", "F := {x}; G := F:at 1; G 1")
        self.check("a:=(1);b:=(a+a);b", "a := 1; b := a + a; b")
        self.check("# first\na := 1 ; # last\na # no more", "a := 1; a")

    def test_a_plain_form_of_2048_and_of_more_bytes(self):
        form = plain("12" + "_1" * 682)
        self.assertEqual(form, "12" + " _1" * 682)
        self.assertEqual(len(form), 2048)
        self.assertEqual(plain("123" + "_1" * 682), -8)
        self.assertEqual(plain("1" + "_1" * 1023), -8)
        self.assertEqual(plain("a:=1;" + "".join(f"a{number}:=a;" for number in range(200)) + "a"), -8)

    def test_a_long_text_may_have_a_short_form(self):
        self.assertEqual(plain(" " * 2047 + "1"), "1")

    def test_refusals(self):
        refusals = {
            " " * 2049: -1, "$": -2, "": -3, "1 +": -3, "(" * 30: -4, "x": -5, "Foo 1": -5, "a := a; a": -6,
            "-" * 40 + "1": -7, "-" * 2047 + "1": -7, "_" + "1_" * 1023 + "1": -8,
        }
        for words, refusal in refusals.items():
            self.assertEqual(plain(words), refusal, words)

    def test_reading_refuses_first(self):
        self.assertEqual(plain("1" + "_1" * 1000 + "+"), -3)
        self.assertEqual(plain("1" + "_1" * 1000 + "+x"), -5)
        self.assertEqual(plain("1" + "_1" * 900 + "-" * 40 + "1"), -7)

    def test_what_is_handed_in_and_given_back(self):
        for words in ["a:=3;( 2*a)+ Iota 4", "1 +", "1" + "_1" * 1000]:
            text = as_bytes(words)
            answer = programs.plain(text)
            self.assertEqual(text, as_bytes(words))
            self.assertIs(type(answer), list)
            self.assertEqual({type(number) for number in answer}, {int})
            self.assertEqual(programs.plain(text), answer)


class Spread(unittest.TestCase):
    """Programs made at random, with blanks, comments and parentheses spread over them."""

    def setUp(self):
        self.random = random.Random(20)

    def gap(self):
        return self.random.choice(["", "", " ", "\n", "\t \r", "#(\n", " # 1 + \n "])

    def number(self):
        value = self.random.choice([0, 1, 7, 10, 123, 10**18, self.random.randrange(10**18)])
        return "_" + str(value) if value and self.random.random() < 0.4 else str(value)

    def expression(self, depth, left=False):
        """The plain form and the same with more in it."""
        choice = self.random.randrange(2 if depth < 2 else 5)
        if choice == 0:
            numbers = [self.number() for _ in range(self.random.randint(1, 3))]
            form, loose = " ".join(numbers), (" " + self.gap()).join(numbers)
        elif choice == 1:
            form = loose = self.random.choice(["a", "b", "x", "y", "z9Z"])
        else:
            right, loose_right = self.expression(depth - 1)
            function, loose_function = self.function(depth - 1)
            form = function + " " + right
            loose = loose_function + " " + self.gap() + loose_right
            if choice > 2:
                first, loose_first = self.expression(depth - 1, True)
                form, loose = first + " " + form, loose_first + " " + self.gap() + loose
            if left:
                form, loose = "(" + form + ")", "(" + loose + self.gap() + ")"
        while self.random.random() < 0.15:
            loose = "(" + self.gap() + loose + self.gap() + ")"
        return form, loose

    def function(self, depth):
        choice = self.random.randrange(2 if depth < 2 else 4)
        if choice == 0:
            word = self.random.choice(["+", "-", "*", "<", "<=", "=", "/="])
            return word, word
        if choice == 1:
            word = self.random.choice(["Abs", "Iota", "Where", "Given"])
            return word, word
        if choice == 2:
            form, loose = self.expression(depth - 1)
            return "{" + form + "}", "{" + self.gap() + loose + self.gap() + "}"
        form, loose = self.function(depth - 1)
        modifier = self.random.choice([":fold", ":scan", ":table", ":swap", ":at"])
        if modifier != ":at":
            return form + modifier, loose + self.gap() + modifier
        rank = str(self.random.randrange(6))
        return form + ":at " + rank, loose + self.gap() + ":at " + self.gap() + rank

    def test_programs(self):
        seen = 0
        for _ in range(3000):
            function, loose_function = self.function(3)
            named, loose_named = self.expression(4)
            last, loose_last = self.expression(6)
            form = "Given := {" + "x}; F := {" + function + " x}; c := {" + named + "} 1; {" + last + "} c"
            loose = ("Given:={x};" + self.gap() + "F:={" + loose_function + " x}" + self.gap() + ";c:={" + loose_named
                     + "}1;" + self.gap() + "{" + loose_last + "}c")
            if len(loose) > 2048:
                continue
            seen += 1
            self.assertEqual(plain(loose), form if len(form) <= 2048 else -8, loose)
            if len(form) <= 2048:
                self.assertEqual(plain(form), form)
        self.assertGreater(seen, 2500)


if __name__ == "__main__":
    unittest.main()
