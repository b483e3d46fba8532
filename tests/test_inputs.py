"""Promise 5: the inputs in the order of their first mentions."""

import random
import unittest

from arraytexts import programs
from helper import REFUSED, as_bytes, inputs, loose_of, made_programs, plain


class Inputs(unittest.TestCase):
    def check(self, words, names):
        self.assertEqual(inputs(words), names.split(), words)

    def test_the_numbers_answered(self):
        self.assertEqual(programs.inputs(as_bytes("b + a1 * b")), [0, 1, 98, 2, 97, 49])
        self.assertEqual(programs.inputs(as_bytes("Abs aZ9")), [0, 3, 97, 90, 57])
        self.assertEqual(programs.inputs(as_bytes("1 + 2")), [0])

    def test_the_documents_examples(self):
        self.check("a:=3;( 2*a)+ Iota 4", "")
        self.check("1 - - _2", "")
        self.check("F := {x + y}; 1 F:table 2 3", "")
        self.check("+:fold 2 * Iota 10", "")

    def test_in_the_order_of_the_text_each_once(self):
        self.check("a", "a")
        self.check("a + b", "a b")
        self.check("b + a", "b a")
        self.check("b + a * b - a < c = b", "b a c")
        self.check("c + (b * a) - c", "c b a")
        self.check("(c + b) * a", "c b a")
        self.check("a + a", "a")
        self.check("z Max m Min a", "z m a")
        self.check("Abs (b + a) Join - c", "b a c")

    def test_names_that_differ_little(self):
        self.check("a + aa * aA - a1 + a + aa", "a aa aA a1")
        self.check("x1 + yy * xX - xy", "x1 yy xX xy")
        self.check("f + fold * at + iota", "f fold at iota")

    def test_names_that_a_statement_gave(self):
        self.check("a := 1; a", "")
        self.check("a := b; a", "b")
        self.check("a := b; a + b * c", "b c")
        self.check("a := 1; b := a; c := b + d; c + a * e", "d e")
        self.check("a := 1; {x + a * b} a", "b")
        self.check("a := 1; F := {a + b}; a F c", "b c")
        self.check("F := +; f F g", "f g")
        self.check("f := 1; F := {f}; F g", "g")

    def test_first_in_a_statement_then_in_the_expression(self):
        self.check("q := c + b; a + b * c", "c b a")
        self.check("q := c; r := b + c; s := a * b; d + a - c", "c b a d")
        self.check("F := {c + x * b}; a F b", "c b a")
        self.check("q := b; F := {a * x}; c + b - a", "b a c")

    def test_in_a_statement_that_nothing_mentions(self):
        self.check("q := a; 1", "a")
        self.check("F := {a}; b", "a b")

    def test_arguments_are_no_inputs(self):
        self.check("{x + y} 1", "")
        self.check("{{y} x} a", "a")
        self.check("a {b + x * y - c} d", "a b c d")
        self.check("{b {c} a} d", "b c a d")
        self.check("F := {x}:fold; a F:at 1 b", "a b")

    def test_behind_modifiers(self):
        self.check("+:fold fold", "fold")
        self.check("b +:at 2:table a", "b a")
        self.check("{b}:swap:scan a", "b a")

    def test_comments_mention_nothing(self):
        self.check("# a\nc # b +\n+ b # d", "c b")
        self.check("\t\r\nb\n+\ra ", "b a")


class Edges(unittest.TestCase):
    def test_names_of_16_bytes(self):
        self.assertEqual(inputs("abcdefghijklmnop"), ["abcdefghijklmnop"])
        self.assertEqual(inputs("abcdefghijklmnoq + abcdefghijklmnop"), ["abcdefghijklmnoq", "abcdefghijklmnop"])
        self.assertEqual(programs.inputs(as_bytes("zZ00000000000009")), [0, 16] + as_bytes("zZ00000000000009"))
        self.assertEqual(inputs("abcdefghijklmnop := 1; abcdefghijklmnop + abcdefghijklmno"), ["abcdefghijklmno"])
        self.assertEqual(inputs("abcdefghijklmnopq"), -2)

    def test_many_inputs_in_2048_bytes(self):
        letters = "zyxwvutsrqponmlkjihgfedcba"
        names = [first + second for first in letters for second in letters][:512]
        words = balanced(names)
        self.assertGreater(len(words), 1900)
        words += " " * (2048 - len(words))
        self.assertEqual(inputs(words), names)
        self.assertEqual(inputs(words + " "), -1)

    def test_many_inputs_in_many_statements(self):
        numbers = range(100, 285)
        words = "".join(f"g{number}:=a{number};" for number in numbers) + "-z"
        self.assertLessEqual(len(words), 2048)
        self.assertEqual(inputs(words), [f"a{number}" for number in numbers] + ["z"])

    def test_levels_and_depth(self):
        self.assertEqual(inputs("(" * 29 + "b" + ")+a" * 29), ["b", "a"])
        self.assertEqual(inputs("(" * 30 + "b" + ")+a" * 30), -4)
        self.assertEqual(inputs("-" * 39 + "a"), ["a"])
        self.assertEqual(inputs("-" * 40 + "a"), -7)

    def test_a_plain_form_of_more_than_2048_bytes_is_no_refusal(self):
        words = "b+1" + "_1" * 1021 + "-a"
        self.assertEqual(plain(words), -8)
        self.assertEqual(inputs(words), ["b", "a"])

    def test_refusals(self):
        self.assertEqual(set(REFUSED.values()), set(range(-7, 0)))
        for words, refusal in REFUSED.items():
            self.assertEqual(programs.inputs(as_bytes(words)), [refusal], words)

    def test_refusals_with_inputs_ahead(self):
        self.assertEqual(inputs("a" + " " * 2048), -1)
        self.assertEqual(inputs("a + b $"), -2)
        self.assertEqual(inputs("a + b +"), -3)
        self.assertEqual(inputs("a + b + " + "(" * 30), -4)
        self.assertEqual(inputs("a + b + x"), -5)
        self.assertEqual(inputs("c := a + b; a := 1; c"), -6)
        self.assertEqual(inputs("a := a; a"), -6)
        self.assertEqual(inputs("a + b +" + "-" * 50 + "c"), -7)

    def test_what_is_handed_in_and_given_back(self):
        for words in ["q := b; {x + c} a + q", "0", "a +", "-" * 40 + "a"]:
            text = as_bytes(words)
            answer = programs.inputs(text)
            self.assertEqual(text, as_bytes(words))
            self.assertIs(type(answer), list)
            self.assertEqual({type(number) for number in answer}, {int})
            kept = list(answer)
            answer.append(0)
            self.assertEqual(programs.inputs(text), kept)

    def test_the_arguments_name(self):
        self.assertEqual(programs.inputs(text=as_bytes("a")), [0, 1, 97])


def balanced(names):
    """An expression of all these names in their order, of little depth."""
    if len(names) == 1:
        return names[0]
    half = len(names) // 2
    left = balanced(names[:half])
    return (left if half == 1 else f"({left})") + "+" + balanced(names[half:])


def mentions(node):
    """The array names in a node of a made program, in the order of the text."""
    if node[0] == "name":
        return [node[1]]
    return [name for part in node if isinstance(part, tuple) for name in mentions(part)]


class Spread(unittest.TestCase):
    """Programs made at random, with blanks, comments and parentheses spread over them."""

    def test_programs(self):
        source = random.Random(6)
        counts = {}
        for program in made_programs(source, 6000):
            loose = loose_of(program, source)
            if len(loose) > 2048:
                continue
            statements, expression = program
            given = [name for name, node in statements] + ["x", "y"]
            names = [name for node in [node for _, node in statements] + [expression] for name in mentions(node)]
            expected = list(dict.fromkeys([name for name in names if name not in given]))
            self.assertEqual(inputs(loose), expected, loose)
            counts[len(expected)] = counts.get(len(expected), 0) + 1
        self.assertEqual(sorted(counts), [0, 1, 2, 3, 4])
        self.assertGreater(min(counts.values()), 100)


if __name__ == "__main__":
    unittest.main()
