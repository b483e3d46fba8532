"""Promise 2, and the refusals of reading in their order."""

import unittest

from arraytexts import programs
from helper import as_bytes, where


class Examples(unittest.TestCase):
    def test_the_documents_examples(self):
        examples = {
            "": [3, 0], "1 2 +": [3, 5], "a b": [3, 2], "x": [5, 0], "{x}": [3, 3], "Foo 1": [5, 0],
            "a := a; a": [6, 0], "b := a; a := 1; b": [6, 8], "Abs := -; 1": [6, 0], "+:at 6 1": [3, 5],
            "1_2": [0, 0], "_0": [2, 0], "+:folds 1": [2, 1], "F := {x + y}; 1 F:table 2 3": [0, 0],
            "a:=3;( 2*a)+ Iota 4": [0, 0], "1 - - _2": [0, 0], "+:fold 2 * Iota 10": [0, 0], "+:at 1 2 3": [0, 0],
        }
        for words, answer in examples.items():
            self.assertEqual(where(words), answer, words)

    def test_what_is_handed_in_and_given_back(self):
        for words in ["1 + 2", "1 +", "x", "a := a; a", "$", "(" * 31, "-" * 50 + "1", " " * 2049]:
            text = as_bytes(words)
            answer = programs.where(text)
            self.assertEqual(text, as_bytes(words))
            self.assertIs(type(answer), list)
            self.assertEqual([type(number) for number in answer], [int, int])
            self.assertEqual(programs.where(text), answer)


class Long(unittest.TestCase):
    def test_2048_bytes_can_be_read(self):
        self.assertEqual(where("1" + " " * 2047), [0, 0])

    def test_2049_bytes_are_refused(self):
        self.assertEqual(where("1" + " " * 2048), [1, 0])
        self.assertEqual(where(" " * 4096), [1, 0])

    def test_long_comes_before_all_others(self):
        for words in ["$", ")", "(" * 31, "x", "a := a; a", "-" * 50 + "1"]:
            self.assertEqual(where(words + " " * (2049 - len(words))), [1, 0], words)


class Order(unittest.TestCase):
    def test_token_comes_before_syntax_and_deep(self):
        self.assertEqual(where(") $ $"), [2, 2])
        self.assertEqual(where("(" * 31 + "$"), [2, 31])

    def test_syntax_and_deep_come_before_names(self):
        self.assertEqual(where("x )"), [3, 2])
        self.assertEqual(where("x + " + "(" * 30), [4, 34])

    def test_names_come_before_depth(self):
        self.assertEqual(where("-" * 50 + "x"), [5, 50])
        self.assertEqual(where("a := " + "-" * 50 + "a; 1"), [6, 0])


class Syntax(unittest.TestCase):
    def check(self, words, position):
        self.assertEqual(where(words), [3, position], words)

    def test_the_end_stands_at_the_texts_length(self):
        self.check("  ", 2)
        self.check("1 + \n", 5)
        self.check("1 + # to come", 13)
        self.check("# nothing\n", 10)
        self.check("a := 1;", 7)
        self.check("(1 + 2", 6)
        self.check("{x + 1", 6)
        self.check("+:at", 4)
        self.check("F := +", 6)

    def test_a_text_may_end_within_a_comment(self):
        self.assertEqual(where("1 # one"), [0, 0])
        self.assertEqual(where("1#"), [0, 0])
        self.assertEqual(where("1 # one\n+ # and\n2"), [0, 0])

    def test_operands_in_a_row(self):
        self.check("a 1", 2)
        self.check("1 a", 2)
        self.check("(1) 2", 4)
        self.check("1 (2)", 2)
        self.check("a (b)", 2)
        self.check("(1)(2)", 3)

    def test_statements_stand_ahead_of_the_programs_expression_alone(self):
        self.check("(a := 1)", 3)
        self.check("1 + a := 2", 6)
        self.check("+ F := 2", 4)
        self.check("{a := 1} 2", 3)
        self.check("b := a := 1; 2", 7)
        self.check("1; 2", 1)
        self.check("1 := 2", 2)
        self.check("+ := -; 2", 2)
        self.check("a := ; 1", 5)

    def test_array_names_are_given_expressions_and_function_words_functions(self):
        self.check("a := +; 1", 6)
        self.check("F := 1; 1", 5)
        self.check("F := a; 1", 5)
        self.check("F := (+); 1", 5)
        self.check("F := + 1; 1", 7)
        self.check("F := {x} {x}; 1", 9)
        self.assertEqual(where("F := {x}:fold:at 2; F 1"), [0, 0])

    def test_ranks(self):
        for rank in range(6):
            self.assertEqual(where(f"+:at {rank} 1"), [0, 0])
        self.check("+:at 6 1", 5)
        self.check("+:at 10 1", 5)
        self.check("+:at _1 1", 5)
        self.check("+:at a 1", 5)
        self.check("+:at :fold 1", 5)
        self.check("+:at 1", 6)
        self.check("F := +:at 1 2; 1", 12)

    def test_modifiers_stand_behind_functions(self):
        self.check(":fold 1", 0)
        self.check("1 :fold 1", 2)
        self.check("+ 1 :fold", 4)
        self.check("+:fold", 6)

    def test_brackets_that_do_not_fit(self):
        self.check(")", 0)
        self.check("()", 1)
        self.check("{} 1", 1)
        self.check("(1}", 2)
        self.check("{x) 1", 2)
        self.check("1)", 1)
        self.check("(1;", 2)


class Deep(unittest.TestCase):
    def test_level_30_and_31_within_parentheses(self):
        self.assertEqual(where("(" * 29 + "1" + ")" * 29), [0, 0])
        self.assertEqual(where("(" * 30 + "1" + ")" * 30), [4, 30])
        self.assertEqual(where("a := " + "(" * 29 + "1" + ")" * 29 + "; a"), [0, 0])
        self.assertEqual(where("a := " + "(" * 30 + "1" + ")" * 30 + "; a"), [4, 35])

    def test_level_30_and_31_within_bodies(self):
        # The depth goes up by two with each body, so a right program has to have other brackets too.
        self.assertEqual(where("{" + "(" * 28 + "x" + ")" * 28 + "} 1"), [0, 0])
        self.assertEqual(where("{" + "(" * 29 + "x" + ")" * 29 + "} 1"), [4, 30])
        self.assertEqual(where("{" * 29 + "x" + "} 1" * 29), [7, 0])
        self.assertEqual(where("{" * 30 + "x" + "} 1" * 30), [4, 30])

    def test_a_function_in_a_statement_stands_at_level_1(self):
        self.assertEqual(where("F := {" + "(" * 28 + "x" + ")" * 28 + "}; F 1"), [0, 0])
        self.assertEqual(where("F := {" + "(" * 29 + "x" + ")" * 29 + "}; F 1"), [4, 35])

    def test_an_expression_behind_a_function_stands_at_the_same_level(self):
        self.assertEqual(where("1 + " * 20 + "(" * 29 + "1" + ")" * 29), [0, 0])
        self.assertEqual(where("1 + " * 20 + "(" * 30 + "1" + ")" * 30), [4, 110])
        self.assertEqual(where("(" * 29 + "1 + 2" + ")" * 29), [0, 0])
        self.assertEqual(where("(" * 29 + "1 + (" + "2" + ")" * 30), [4, 34])

    def test_the_level_goes_down_again(self):
        self.assertEqual(where("((1) + (2)) + " * 12 + "(" * 29 + "1" + ")" * 29), [0, 0])

    def test_the_token_at_level_31_may_be_any(self):
        for token in [")", "}", ";", ":=", ":fold", "1", ""]:
            self.assertEqual(where("(" * 30 + " " + token), [4, 31], token)
        self.assertEqual(where("(" * 2048), [4, 30])

    def test_the_one_that_is_met_first_counts(self):
        self.assertEqual(where("1 ) " + "(" * 30 + "1"), [3, 2])
        self.assertEqual(where("(" * 30 + "1 )) )"), [4, 30])
        self.assertEqual(where("(" * 29 + ")"), [3, 29])


class Depth(unittest.TestCase):
    def check(self, make):
        """make(n) is a program of the depth n."""
        self.assertEqual(where(make(39)), [0, 0])
        self.assertEqual(where(make(40)), [0, 0])
        self.assertEqual(where(make(41)), [7, 0])

    def test_functions_of_one_and_of_two(self):
        self.check(lambda depth: "-" * (depth - 1) + "1")
        self.check(lambda depth: "1+" * (depth - 1) + "1")
        self.check(lambda depth: "(" * 20 + "1" + "+1)" * 20 + "+" + "-" * (depth - 2) + "a")

    def test_the_left_operand_counts(self):
        self.check(lambda depth: "(" + "-" * (depth - 2) + "1) + 1")

    def test_modified_functions(self):
        self.check(lambda depth: "+" + ":fold" * (depth - 2) + " 1")
        self.check(lambda depth: "1 +" + ":at 1" * (depth - 2) + " 1")

    def test_bodies(self):
        self.check(lambda depth: "{" + "-" * (depth - 3) + "x} 1")

    def test_statements(self):
        self.check(lambda depth: "a := " + "-" * (depth - 1) + "1; a")
        self.check(lambda depth: "F := +" + ":swap" * (depth - 1) + "; 1")
        self.check(lambda depth: "F := {" + "-" * (depth - 2) + "x}; 1")
        self.check(lambda depth: "F := -; a := 1; " + "F " * (depth - 1) + "a")

    def test_parentheses_make_no_node(self):
        self.check(lambda depth: "(" * 20 + "-" * (depth - 1) + "(((1)))" + ")" * 20)

    def test_what_is_as_long_as_the_text(self):
        self.assertEqual(where("-" * 2047 + "1"), [7, 0])
        self.assertEqual(where("1+" * 1023 + "1"), [7, 0])
        self.assertEqual(where("+" + ":at 1" * 408 + " 1"), [7, 0])
        self.assertEqual(where("F := -" + ":at 1" * 400 + "; 1"), [7, 0])
        self.assertEqual(where("1 " * 1024), [0, 0])
        self.assertEqual(where("(1)+" * 10 + " " * 2000 + "1"), [0, 0])
        statements = "".join(f"a{number}:=1;" for number in range(200))
        self.assertEqual(where(statements + "1"), [0, 0])


if __name__ == "__main__":
    unittest.main()
