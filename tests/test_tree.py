"""Promise 3: the program as numbers."""

import random
import unittest

from arraytexts import programs
from helper import PRIMITIVES, REFUSED, as_bytes, loose_of, made_programs, numbers_of, plain, tree

# The numbers of some parts that stand in many of the programs below.
ONE = [0, 1, 1]
TWO = [0, 1, 2]
THREE = [0, 1, 3]
A = [1, 1, 97]
B = [1, 1, 98]
X = [1, 1, 120]
Y = [1, 1, 121]
PLUS = [4, 1, 43]
MINUS = [4, 1, 45]
TIMES = [4, 1, 42]
IOTA = [4, 4, 73, 111, 116, 97]
F = [5, 1, 70]


class Tree(unittest.TestCase):
    def check(self, words, *parts):
        """The parts' numbers in a row are the program's."""
        self.assertEqual(tree(words), sum(parts, []), words)

    def test_the_documents_examples(self):
        self.check("a:=3;( 2*a)+ Iota 4", [1, 1, 97], THREE, [3, 3], TWO, TIMES, A, PLUS, [2], IOTA, [0, 1, 4])
        self.check("1 - - _2", [0, 3], ONE, MINUS, [2], MINUS, [0, 1, -2])
        self.check("1_2", [0, 0, 2, 1, -2])
        self.check("+:at 1 2 3", [0, 2, 11, 1], PLUS, [0, 2, 2, 3])
        self.check("+:fold 2 * Iota 10", [0, 2, 7], PLUS, [3], TWO, TIMES, [2], IOTA, [0, 1, 10])
        self.check("2 * 3 + 4", [0, 3], TWO, TIMES, [3], THREE, PLUS, [0, 1, 4])
        self.check("F := {x + y}; 1 F:table 2 3", [1, 1, 70, 6, 3], X, PLUS, Y, [3], ONE, [9], F, [0, 2, 2, 3])

    def test_numbers(self):
        self.check("0", [0, 0, 1, 0])
        self.check("_1", [0, 0, 1, -1])
        self.check("7 7 _7 0 10", [0, 0, 5, 7, 7, -7, 0, 10])
        self.check("1000000000000000000 _1000000000000000000", [0, 0, 2, 10**18, -10**18])
        self.check("999999999999999999_999999999999999999", [0, 0, 2, 10**18 - 1, 1 - 10**18])

    def test_names(self):
        self.check("a", [0], A)
        self.check("aZ09", [0, 1, 4, 97, 90, 48, 57])
        self.check("abcdefghijklmnop", [0, 1, 16], list(range(97, 113)))
        self.check("{x} y1", [0, 2, 6], X, [1, 2, 121, 49])

    def test_every_primitive(self):
        self.assertEqual(len(PRIMITIVES), 34)
        for word in PRIMITIVES:
            number = [4, len(word)] + as_bytes(word)
            self.check(f"{word} 1", [0, 2], number, ONE)
            self.check(f"1 {word} 2", [0, 3], ONE, number, TWO)
            self.check(f"F := {word}; 1", [1, 1, 70], number, ONE)

    def test_given_functions(self):
        self.check("F := +; F 1", [1, 1, 70], PLUS, [2], F, ONE)
        self.check("F := +; 1 F 2", [1, 1, 70], PLUS, [3], ONE, F, TWO)
        self.check("Abs1 := +; Abs1 1", [1, 4, 65, 98, 115, 49], PLUS, [2, 5, 4, 65, 98, 115, 49], ONE)
        word = "Abcdefghijklmnop"
        self.check(f"{word} := +; {word} 1", [1, 16], as_bytes(word), PLUS, [2, 5, 16], as_bytes(word), ONE)

    def test_bodies(self):
        self.check("{x} 1", [0, 2, 6], X, ONE)
        self.check("1 {y - x} 2", [0, 3], ONE, [6, 3], Y, MINUS, X, TWO)
        self.check("{{x} y} 1", [0, 2, 6, 2, 6], X, Y, ONE)
        self.check("{(x)} 1", [0, 2, 6], X, ONE)
        self.check("{1} a", [0, 2, 6], ONE, A)

    def test_each_modifier(self):
        for modifier, number in {":fold": 7, ":scan": 8, ":table": 9, ":swap": 10}.items():
            self.check(f"+{modifier} 1", [0, 2, number], PLUS, ONE)
            self.check(f"1 {{x}}{modifier} 2", [0, 3], ONE, [number, 6], X, TWO)
            self.check(f"F := -{modifier}; 1", [1, 1, 70, number], MINUS, ONE)
        for rank in range(6):
            self.check(f"+:at {rank} 1", [0, 2, 11, rank], PLUS, ONE)
            self.check(f"F := -; 1 F:at {rank} 2", [1, 1, 70], MINUS, [3], ONE, [11, rank], F, TWO)

    def test_the_last_modifier_stands_first(self):
        self.check("+:fold:scan:table:swap:at 3 1", [0, 2, 11, 3, 10, 9, 8, 7], PLUS, ONE)
        self.check("+:at 0:at 5:fold 1", [0, 2, 7, 11, 5, 11, 0], PLUS, ONE)

    def test_statements(self):
        self.check("a := 1; a", [1, 1, 97], ONE, A)
        self.check("a := (1 + 2); 3", [1, 1, 97, 3], ONE, PLUS, TWO, THREE)
        self.check("F := {x}; a := F 1; G := F:at 2; b := G a; b",
                   [4, 1, 70, 6], X, [1, 97, 2], F, ONE, [1, 71, 11, 2], F, [1, 98, 2, 5, 1, 71], A, B)

    def test_parentheses_make_no_node(self):
        self.check("(1 + 2) * 3", [0, 3, 3], ONE, PLUS, TWO, TIMES, THREE)
        self.check("1 + (2 * 3)", [0, 3], ONE, PLUS, [3], TWO, TIMES, THREE)
        self.check("1 + 2 * 3", [0, 3], ONE, PLUS, [3], TWO, TIMES, THREE)
        self.check("(((1 2)))", [0, 0, 2, 1, 2])
        self.check("(- a) + b", [0, 3, 2], MINUS, A, PLUS, B)
        self.check("- (a + b)", [0, 2], MINUS, [3], A, PLUS, B)

    def test_blanks_and_comments_are_not_told(self):
        self.check(" # 1 +\n\ta\r\n+#b\nb # b", [0, 3], A, PLUS, B)


class Edges(unittest.TestCase):
    def test_level_30(self):
        self.assertEqual(tree("(" * 29 + "1" + ")" * 29), [0] + ONE)
        self.assertEqual(tree("(" * 30 + "1" + ")" * 30), -4)
        self.assertEqual(tree("(" * 29 + "1" + "+2)" * 29), [0] + [3] * 29 + ONE + (PLUS + TWO) * 29)
        self.assertEqual(tree("F := {" + "(" * 28 + "x" + ")" * 28 + "}; 1"), [1, 1, 70, 6] + X + ONE)
        self.assertEqual(tree("F := {" + "(" * 29 + "x" + ")" * 29 + "}; 1"), -4)
        self.assertEqual(tree("{" * 30 + "x"), -4)

    def test_depth_40(self):
        self.assertEqual(tree("-" * 39 + "1"), [0] + ([2] + MINUS) * 39 + ONE)
        self.assertEqual(tree("-" * 40 + "1"), -7)
        self.assertEqual(tree("a+" * 39 + "1"), [0] + ([3] + A + PLUS) * 39 + ONE)
        self.assertEqual(tree("a+" * 40 + "1"), -7)
        self.assertEqual(tree("+" + ":at 3" * 38 + " 1"), [0, 2] + [11, 3] * 38 + PLUS + ONE)
        self.assertEqual(tree("+" + ":at 3" * 39 + " 1"), -7)
        self.assertEqual(tree("F := +" + ":swap" * 39 + "; 1"), [1, 1, 70] + [10] * 39 + PLUS + ONE)
        self.assertEqual(tree("F := +" + ":swap" * 40 + "; 1"), -7)
        self.assertEqual(tree("{" * 19 + "-x" + "} 1" * 19), [0] + [2, 6] * 19 + [2] + MINUS + X + ONE * 19)
        self.assertEqual(tree("{" * 20 + "-x" + "} 1" * 20), -7)

    def test_more_than_2048_numbers(self):
        words, expected = "a", A
        while len(words) < 2000:
            words, expected = f"({words})+{words}", [3] + expected + PLUS + expected
        numbers = tree(words)
        self.assertEqual(numbers, [0] + expected)
        self.assertEqual(len(numbers), 3581)
        statements = "".join(f"a{number}:=-b;" for number in range(100, 300))
        numbers = tree(statements + "b")
        expected = [200]
        for number in range(100, 300):
            expected += [4, 97] + as_bytes(str(number)) + [2] + MINUS + B
        self.assertEqual(numbers, expected + B)
        self.assertGreater(len(numbers), 2048)

    def test_a_plain_form_of_more_than_2048_bytes_is_no_refusal(self):
        words = "1" + "_1" * 1023
        self.assertEqual(plain(words), -8)
        self.assertEqual(tree(words), [0, 0, 1024, 1] + [-1] * 1023)
        words = "{" + "x+x*" * 18 + "x}" + "{" + "x+x*" * 17 + "x}:fold" + "_1" * 900 + " "
        self.assertEqual(plain(words), -8)
        two = [3] + X + PLUS + [3] + X + TIMES
        self.assertEqual(tree(words), [0, 2, 6] + two * 18 + X + [2, 7, 6] + two * 17 + X + [0, 900] + [-1] * 900)

    def test_a_text_of_2048_bytes(self):
        self.assertEqual(tree("1" + " " * 2047), [0] + ONE)
        self.assertEqual(tree("1" + " " * 2048), -1)
        self.assertEqual(tree("1 " * 1024), [0, 0, 1024] + [1] * 1024)

    def test_refusals(self):
        self.assertEqual(set(REFUSED.values()), set(range(-7, 0)))
        for words, refusal in REFUSED.items():
            self.assertEqual(programs.tree(as_bytes(words)), [refusal], words)

    def test_refusals_in_their_order(self):
        self.assertEqual(tree("$" + " " * 2048), -1)
        self.assertEqual(tree(") $"), -2)
        self.assertEqual(tree("(" * 31 + "$"), -2)
        self.assertEqual(tree(") + " + "(" * 31), -3)
        self.assertEqual(tree("(" * 31 + ")"), -4)
        self.assertEqual(tree("x )"), -3)
        self.assertEqual(tree("x + " + "(" * 31), -4)
        self.assertEqual(tree("a := x; a := 1; 1"), -5)
        self.assertEqual(tree("a := a; x"), -6)
        self.assertEqual(tree("-" * 50 + "x"), -5)
        self.assertEqual(tree("a := " + "-" * 50 + "a; 1"), -6)

    def test_what_is_handed_in_and_given_back(self):
        for words in ["a:=3;( 2*a)+ Iota:at 2 _4", "0", "1 +", "-" * 40 + "1"]:
            text = as_bytes(words)
            answer = programs.tree(text)
            self.assertEqual(text, as_bytes(words))
            self.assertIs(type(answer), list)
            self.assertEqual({type(number) for number in answer}, {int})
            kept = list(answer)
            answer.append(0)
            self.assertEqual(programs.tree(text), kept)


class Spread(unittest.TestCase):
    """Programs made at random, with blanks, comments and parentheses spread over them."""

    def test_programs(self):
        source = random.Random(3)
        seen = 0
        for program in made_programs(source, 6000):
            loose = loose_of(program, source)
            if len(loose) <= 2048:
                seen += 1
                self.assertEqual(tree(loose), numbers_of(program), loose)
        self.assertGreater(seen, 5000)


if __name__ == "__main__":
    unittest.main()
