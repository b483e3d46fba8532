"""Promise 4: whether two programs' trees are the same."""

import random
import unittest

from arraytexts import programs
from helper import MODIFIERS, REFUSED, as_bytes, form_of, loose_of, made_programs, plain, same

# Each row holds texts of one tree; texts of two rows have different trees.
ROWS = [
    ["1", " 1 ", "(1)", "((1))", "# one\n1#", "\t1\r\n"],
    ["_1", "(_1)", " _1"],
    ["- 1", "-1", "-(1)", "(-1)", "- # less\n1"],
    ["1 1", "1\n1", "(1 1)", "1#\n1"],
    ["1 _1", "1_1"],
    ["1 - 1", "1-1", "(1)-(1)", "(1 - 1)", "1-(1)"],
    ["11"], ["0"], ["0 1 97"], ["2 1"], ["1 2"], ["1 2 3"],
    ["1 + 2", "1+2", "(1)+2"], ["2 + 1"], ["1 2 + 3"], ["1 + 2 3"],
    ["1 + 2 * 3", "1+(2*3)", "(1 + (2 * (3)))"], ["(1 + 2) * 3", "((1+2)*3)", "((1)+2)*(3)"], ["1 * 2 + 3"],
    ["- 1 + 2", "-(1+2)"], ["(- 1) + 2", "((-1)+2)"],
    ["a"], ["b"], ["aa"], ["aA"], ["a1"], ["ab"],
    ["a + b", "a+(b)", "( a )+b"], ["b + a"], ["a + a"], ["a - b"], ["a < b"], ["a <= b"], ["a = b"], ["a /= b"],
    ["a < = b", "a<(=b)"], ["a Max b"], ["a Min b"],
    ["+:fold a", "+ :fold a", "+:fold(a)"], ["+:scan a"], ["+:table a"], ["+:swap a"],
    ["+:fold:scan a"], ["+:scan:fold a"], ["+:fold:fold a"], ["1 +:fold a"],
    ["+:at 0 1"], ["+:at 1 0"], ["+:at 1 1"], ["+:at 1 1 1", "+:at 1(1 1)", "+ :at\n1 1 1"], ["+:at 5 1"],
    ["+:at 1:at 2 3"], ["+:at 2:at 1 3"], ["+:at 1 2 3"], ["-:at 1 2 3"],
    ["{x} 1", "{(x)}1", "{ x } (1)"], ["{y} 1"], ["{1} 1"], ["{x + y} 1"], ["{y + x} 1"], ["{{x} y} 1"], ["{{y} x} 1"],
    ["{x} {y} 1", "{x}({y}1)"], ["({x} 2) {y} 1"],
    ["a := 1; a", "a:=1;a", "a:=(1);(a)", "# a\na := 1 ;\n a"], ["a := 1; 1"], ["a := 1; b"], ["b := 1; b"],
    ["a := 2; a"], ["a := 1; b := 2; a + b"], ["b := 2; a := 1; a + b"], ["a := 2; b := 1; a + b"],
    ["a := 1; b := a; b"], ["a := 1; b := a; a"], ["a := 1; b := 1; b"],
    ["F := +; F 1", "F:=+;F(1)"], ["F := +; + 1"], ["+ 1"], ["G := +; G 1"], ["F := -; F 1"], ["F := +; 1 F 1"],
    ["F := +; G := -; F 1"], ["F := +; G := -; G 1"], ["F := -; G := +; G 1"], ["G := -; F := +; F 1"],
    ["F := +:at 2; F 1"], ["F := +:at 3; F 1"], ["F := +; F:at 2 1"], ["F := {+ x}; F 1", "F := {(+(x))}; F 1"],
    ["f := 1; F := +; F f"], ["F := +; f := 1; F f"],
]


class Same(unittest.TestCase):
    def test_each_with_each(self):
        for place, row in enumerate(ROWS):
            for other_place, other_row in enumerate(ROWS):
                for words in row:
                    for other in other_row:
                        self.assertEqual(same(words, other), int(place == other_place), (words, other))

    def test_what_the_document_prints(self):
        self.assertEqual(same("a:=3;( 2*a)+ Iota 4", "a := 3; (2 * a) + Iota 4"), 1)
        self.assertEqual(same("a:=3;( 2*a)+ Iota 4", "(2 * 3) + Iota 4"), 0)
        self.assertEqual(same("2 * 3 + 4", "2 * (3 + 4)"), 1)
        self.assertEqual(same("2 * 3 + 4", "(2 * 3) + 4"), 0)

    def test_large_numbers_and_long_names(self):
        self.assertEqual(same("1000000000000000000", "(1000000000000000000)"), 1)
        self.assertEqual(same("1000000000000000000", "999999999999999999"), 0)
        self.assertEqual(same("_1000000000000000000", "1000000000000000000"), 0)
        self.assertEqual(same("_1000000000000000000", "_999999999999999999"), 0)
        self.assertEqual(same("abcdefghijklmnop", "abcdefghijklmnop "), 1)
        self.assertEqual(same("abcdefghijklmnop", "abcdefghijklmnoq"), 0)
        self.assertEqual(same("abcdefghijklmnop", "abcdefghijklmno"), 0)


class Edges(unittest.TestCase):
    def test_level_30(self):
        self.assertEqual(same("(" * 29 + "1" + ")" * 29, "1"), 1)
        self.assertEqual(same("1", "(" * 29 + "1" + ")" * 29), 1)
        self.assertEqual(same("(" * 29 + "1" + ")" * 29, "2"), 0)
        self.assertEqual(same("(" * 30 + "1" + ")" * 30, "1"), -4)
        self.assertEqual(same("1", "(" * 30 + "1" + ")" * 30), -14)

    def test_depth_40(self):
        self.assertEqual(same("-" * 39 + "1", "- " * 39 + "(1)"), 1)
        self.assertEqual(same("-" * 39 + "1", "-" * 39 + "2"), 0)
        self.assertEqual(same("-" * 39 + "1", "-" * 38 + "1"), 0)
        self.assertEqual(same("+" + ":at 1" * 38 + " 1", "+" + ":at 1" * 37 + ":at 1 1"), 1)
        self.assertEqual(same("+:at 2" + ":at 1" * 37 + " 1", "+" + ":at 1" * 38 + " 1"), 0)
        self.assertEqual(same("-" * 40 + "1", "-" * 39 + "1"), -7)
        self.assertEqual(same("-" * 39 + "1", "-" * 40 + "1"), -17)

    def test_trees_of_more_than_2048_numbers(self):
        statements = "".join(f"a{number}:=-b;" for number in range(100, 300))
        self.assertEqual(same(statements + "b", statements + "(b)"), 1)
        self.assertEqual(same(statements + "b", statements + "c"), 0)
        self.assertEqual(same(statements + "b", statements.replace("a200:=-b", "a200:=+b") + "b"), 0)
        self.assertEqual(same(statements + "b", statements.replace("a200", "a300") + "b"), 0)

    def test_plain_forms_of_more_than_2048_bytes(self):
        words = "1" + "_1" * 1023
        self.assertEqual(plain(words), -8)
        self.assertEqual(same(words, words), 1)
        self.assertEqual(same(words, words[:-1] + "2"), 0)
        self.assertEqual(same(words, words[:-2]), 0)
        self.assertEqual(same("1", words), 0)

    def test_texts_of_2048_bytes(self):
        self.assertEqual(same("1" + " " * 2047, "#" * 2046 + "\n1"), 1)
        self.assertEqual(same("1" + " " * 2048, "1"), -1)
        self.assertEqual(same("1", "1" + " " * 2048), -11)


class Refusals(unittest.TestCase):
    def test_on_either_side(self):
        self.assertEqual(set(REFUSED.values()), set(range(-7, 0)))
        for words, refusal in REFUSED.items():
            for good in ["1", "a := 3; (2 * a) + Iota 4", "1" + "_1" * 1023]:
                self.assertEqual(same(words, good), refusal, words)
                self.assertEqual(same(good, words), refusal - 10, words)

    def test_on_both_at_once(self):
        for words, refusal in REFUSED.items():
            for other in REFUSED:
                self.assertEqual(same(words, other), refusal, (words, other))


class Interface(unittest.TestCase):
    def test_what_is_handed_in_and_given_back(self):
        for words, other in [("1 + 2", "1+2"), ("1 + 2", "2 + 1"), ("1 +", "1"), ("1", "1 +"), ("x", "1 +")]:
            first, second = as_bytes(words), as_bytes(other)
            answer = programs.same(first, second)
            self.assertEqual((first, second), (as_bytes(words), as_bytes(other)))
            self.assertIs(type(answer), list)
            self.assertEqual([type(number) for number in answer], [int])
            self.assertEqual(programs.same(first, second), answer)

    def test_one_list_on_both_sides(self):
        text = as_bytes("a := 3; a")
        self.assertEqual(programs.same(text, text), [1])
        text = as_bytes("a := 3; x")
        self.assertEqual(programs.same(text, text), [-5])

    def test_the_arguments_names(self):
        self.assertEqual(programs.same(b=as_bytes("1 +"), a=as_bytes("1")), [-13])


def changes(node):
    """Nodes that differ from this one in one thing each."""
    kind, *rest = node
    if kind == "numbers":
        for place, number in enumerate(rest):
            yield (kind, *rest[:place], number + (1 if number < 0 else -1), *rest[place + 1:])
        yield (*node, 0)
        return
    if kind == "name":
        yield (kind, "a" if rest[0] == "b" else "b")
        yield ("numbers", 1)
    elif kind == "primitive":
        yield (kind, "+" if rest[0] == "-" else "-")
        yield ("modified", ":fold", None, node)
    elif kind == "given":
        yield ("primitive", "Abs")
    elif kind == "modified":
        modifier, rank, function = rest
        yield function
        for other in MODIFIERS[:4]:
            if other != modifier:
                yield (kind, other, None, function)
        if rank is not None:
            yield (kind, modifier, (rank + 1) % 6, function)
    elif kind == "one":
        yield ("two", ("numbers", 1), *rest)
    elif kind == "two":
        yield ("one", *rest[1:])
        if rest[0] != rest[2]:
            yield (kind, rest[2], rest[1], rest[0])
    for place, part in enumerate(rest):
        if isinstance(part, tuple):
            for changed in changes(part):
                yield (kind, *rest[:place], changed, *rest[place + 1:])


def program_changes(program):
    statements, expression = program
    for changed in changes(expression):
        yield statements, changed
    for place, (name, node) in enumerate(statements):
        for changed in changes(node):
            yield statements[:place] + [(name, changed)] + statements[place + 1:], expression
    yield [("more", ("numbers", 1))] + statements, expression
    yield statements + [("More", ("primitive", "+"))], expression


class Spread(unittest.TestCase):
    """Programs made at random, with blanks, comments and parentheses spread over them."""

    def test_two_texts_of_one_program(self):
        source = random.Random(4)
        for program in made_programs(source, 3000):
            words, other = loose_of(program, source), loose_of(program, source)
            if max(len(words), len(other)) <= 2048:
                self.assertEqual(same(words, other), 1, (words, other))
                self.assertEqual(same(form_of(program), other), 1, other)

    def test_two_programs_that_differ_in_one_thing(self):
        source = random.Random(5)
        seen = 0
        for program in made_programs(source, 100):
            words = loose_of(program, source)
            for changed in program_changes(program):
                other = loose_of(changed, source)
                if max(len(words), len(other)) <= 2048:
                    seen += 1
                    self.assertEqual(same(words, other), 0, (words, other))
                    self.assertEqual(same(other, words), 0, (other, words))
        self.assertGreater(seen, 2000)


if __name__ == "__main__":
    unittest.main()
