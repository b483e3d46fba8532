"""Promise 8: how many STMTs and ATOMs, the depth, and how many bytes the plain form has."""

import random
import unittest

from arraytexts import programs
from helper import (PRIMITIVES, REFUSED, as_bytes, atoms, depth_of, flat, form_of, loose_of, made_programs, plain,
                    sizes, tree)


class Sizes(unittest.TestCase):
    def check(self, words, statements, atom_count, depth, length):
        self.assertEqual(sizes(words), [statements, atom_count, depth, length], words)

    def test_the_numbers_answered(self):
        self.assertEqual(programs.sizes(as_bytes("1")), [0, 0, 0, 1, 1])
        self.assertEqual(programs.sizes(as_bytes("a:=3;( 2*a)+ Iota 4")), [0, 1, 3, 3, 24])

    def test_the_documents_examples(self):
        self.check("a:=3;( 2*a)+ Iota 4", 1, 3, 3, len("a := 3; (2 * a) + Iota 4"))
        self.check("1 - - _2", 0, 2, 3, len("1 - - _2"))
        self.check("F := {x + y}; 1 F:table 2 3", 1, 3, 3, len("F := {x + y}; 1 F:table 2 3"))
        self.check("1_2", 0, 0, 1, 4)
        self.check("+:at 1 2 3", 0, 1, 3, 10)
        self.check("+:fold 2 * Iota 10", 0, 3, 4, 18)

    def test_statements(self):
        self.check("a := 1; a", 1, 0, 1, 9)
        self.check("F := +; 1", 1, 1, 1, 9)
        self.check("a:=1;F:=+;b:=F a;b F a", 3, 3, 2, len("a := 1; F := +; b := F a; b F a"))

    def test_atoms(self):
        for word in PRIMITIVES:
            self.check(f"{word} 1", 0, 1, 2, len(word) + 2)
            self.check(f"1{word} 2", 0, 1, 2, len(word) + 4)
        self.check("{{x} y} 1", 0, 2, 5, 9)
        self.check("F:=-;F F F 1", 1, 4, 4, len("F := -; F F F 1"))
        self.check("+:fold:scan:table:swap:at 3 1", 0, 1, 7, 29)

    def test_depth(self):
        self.check("1 2 3", 0, 0, 1, 5)
        self.check("a", 0, 0, 1, 1)
        self.check("- 1", 0, 1, 2, 3)
        self.check("1 + 2", 0, 1, 2, 5)
        self.check("{x} 1", 0, 1, 3, 5)
        self.check("-:fold 1", 0, 1, 3, 8)
        self.check("(1 + 2) - 3", 0, 2, 3, 11)
        self.check("(((1)))", 0, 0, 1, 1)
        self.check("1 {- - x} 2", 0, 3, 5, 11)

    def test_the_greatest_depth_of_all_parts(self):
        self.check("a := - - - 1; a", 1, 3, 4, 15)
        self.check("F := +:fold:scan; - 1", 1, 2, 3, 21)
        self.check("F := {- x}; 1", 1, 2, 3, 13)
        self.check("a := - 1; b := - - - 2; c := - 3; 4", 3, 5, 4, 35)
        self.check("a := - 1; - - - 2", 1, 4, 4, 17)

    def test_of_the_program_as_it_stands(self):
        # What is given is not written out.
        self.check("a := - 1; b := - a; - b", 2, 3, 2, 23)
        self.assertEqual(flat("a := - 1; b := - a; - b"), "- - - 1")

    def test_blanks_comments_and_parentheses_do_not_count(self):
        self.check("  # + {\n ( ( a ) )\t+\r\n(b) # - 1", 0, 1, 2, 5)
        self.check("(1+2)+(3+4)", 0, 3, 3, 15)


class Edges(unittest.TestCase):
    def test_depth_40(self):
        self.assertEqual(sizes("-" * 39 + "1"), [0, 39, 40, 79])
        self.assertEqual(sizes("-" * 40 + "1"), -7)
        self.assertEqual(sizes("F:=+" + ":swap" * 39 + ";1"), [1, 1, 40, 6 + 5 * 39 + 3])
        self.assertEqual(sizes("F:=+" + ":swap" * 40 + ";1"), -7)

    def test_level_30(self):
        self.assertEqual(sizes("(" * 29 + "1" + ")+2" * 29), [0, 29, 30, 1 + 28 * 2 + 29 * 4])
        self.assertEqual(sizes("(" * 30 + "1" + ")+2" * 30), -4)

    def test_a_plain_form_of_more_than_2048_bytes(self):
        self.assertEqual(sizes("12" + "_1" * 682), [0, 0, 1, 2048])
        self.assertEqual(sizes("123" + "_1" * 682), [0, 0, 1, 2049])
        self.assertEqual(plain("123" + "_1" * 682), -8)
        self.assertEqual(sizes("1" + "_1" * 1023), [0, 0, 1, 1 + 3 * 1023])
        statements = "".join(f"a{number}:=-b;" for number in range(100, 300))
        self.assertEqual(plain(statements + "b"), -8)
        self.assertEqual(sizes(statements + "b"), [200, 200, 2, 200 * len("a100 := - b; ") + 1])

    def test_many_statements(self):
        names = [first + second for first in "abcdefghijklmnopqrstuvwxyz" for second in "0123456789ABCDEFGH"]
        words = "".join(f"{name}:=1;" for name in names[:340]) + "1"
        self.assertLessEqual(len(words), 2048)
        self.assertEqual(sizes(words), [340, 0, 1, 340 * len("a0 := 1; ") + 1])

    def test_what_flat_refuses(self):
        doubled = "a0:=1+2;" + "".join(f"a{number + 1}:=a{number}+a{number};" for number in range(60)) + "a60"
        self.assertEqual(flat(doubled), -9)
        self.assertEqual(sizes(doubled), [61, 61, 2, len(plain(doubled))])

    def test_a_text_of_2048_bytes(self):
        self.assertEqual(sizes("1" + " " * 2047), [0, 0, 1, 1])
        self.assertEqual(sizes("1" + " " * 2048), -1)
        self.assertEqual(sizes("1 " * 1024), [0, 0, 1, 2047])

    def test_refusals(self):
        self.assertEqual(set(REFUSED.values()), set(range(-7, 0)))
        for words, refusal in REFUSED.items():
            self.assertEqual(programs.sizes(as_bytes(words)), [refusal], words)

    def test_what_is_handed_in_and_given_back(self):
        for words in ["a:=3;( 2*a)+ Iota:at 2 _4", "0", "1 +", "-" * 40 + "1"]:
            text = as_bytes(words)
            answer = programs.sizes(text)
            self.assertEqual(text, as_bytes(words))
            self.assertIs(type(answer), list)
            self.assertEqual({type(number) for number in answer}, {int})
            kept = list(answer)
            answer.append(0)
            self.assertEqual(programs.sizes(text), kept)

    def test_the_arguments_name(self):
        self.assertEqual(programs.sizes(text=as_bytes("1")), [0, 0, 0, 1, 1])


def atom_count(node):
    own = int(node[0] in ("primitive", "given", "body"))
    return own + sum(atom_count(part) for part in node if isinstance(part, tuple))


class Spread(unittest.TestCase):
    """Programs made at random, with blanks, comments and parentheses spread over them."""

    def test_programs(self):
        source = random.Random(10)
        seen = 0
        for program in made_programs(source, 6000):
            loose = loose_of(program, source)
            if len(loose) > 2048:
                continue
            seen += 1
            statements, expression = program
            nodes = [node for _, node in statements] + [expression]
            expected = [len(statements), sum(map(atom_count, nodes)), max(map(depth_of, nodes)), len(form_of(program))]
            self.assertEqual(sizes(loose), expected, loose)
            self.assertEqual(tree(loose)[0], expected[0])
            self.assertEqual(len(atoms(loose)), expected[1])
        self.assertGreater(seen, 5000)


if __name__ == "__main__":
    unittest.main()
