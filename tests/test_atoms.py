"""Promise 6: the positions of the ATOMs in the order of the text."""

import random
import unittest

from arraytexts import programs
from helper import PRIMITIVES, REFUSED, as_bytes, atoms, laid_out, made_programs, plain, program_tokens


class Atoms(unittest.TestCase):
    def check(self, words, marks):
        """The ATOMs stand above the marks ^ and nowhere else."""
        self.assertEqual(atoms(words), [place for place, mark in enumerate(marks) if mark == "^"], words)

    def test_the_numbers_answered(self):
        self.assertEqual(programs.atoms(as_bytes("1 + 2")), [0, 2])
        self.assertEqual(programs.atoms(as_bytes("- 1 + 2")), [0, 0, 4])
        self.assertEqual(programs.atoms(as_bytes("1")), [0])

    def test_the_documents_examples(self):
        self.assertEqual(atoms("F := {x + y}; 1 F:table 2 3"), [5, 8, 16])
        self.check("a:=3;( 2*a)+ Iota 4",
                   "        ^  ^ ^     ")
        self.check("1 - - _2",
                   "  ^ ^   ")
        self.check("+:at 1 2 3",
                   "^         ")
        self.check("+:fold 2 * Iota 10",
                   "^        ^ ^      ")
        self.check("2 * 3 + 4",
                   "  ^   ^  ")

    def test_every_primitive(self):
        for word in PRIMITIVES:
            self.assertEqual(atoms(f"{word} 1"), [0])
            self.assertEqual(atoms(f"1 {word} 2"), [2])
            self.assertEqual(atoms(f"F := {word}; F 1"), [5, 7 + len(word)])
            self.assertEqual(atoms(f"{{{word} x}} 1"), [0, 1])

    def test_signs_of_two_bytes(self):
        self.check("1<=2/=3<4=5",
                   " ^  ^  ^ ^ ")
        self.check("1 < = 2 <= = 3 /= - /= 4",
                   "  ^ ^   ^  ^   ^  ^ ^   ")
        self.check("1<==2",
                   " ^ ^ ")
        self.check("F:=<=;F/=:fold 2",
                   "   ^  ^^        ")

    def test_no_other_sign_is_an_atom(self):
        self.check("a", " ")
        self.check("(a)", "   ")
        self.check("a := 1; b := (a); (b)", " ")
        self.check("1 _2 3", " ")

    def test_given_functions(self):
        self.check("F := +; F 1",
                   "     ^  ^  ")
        self.check("F := +; G := F; 1 G F 2",
                   "     ^       ^    ^ ^  ")
        self.check("F := -; 1 F:swap:at 2 3",
                   "     ^    ^            ")
        self.check("Abs1 := Abs; Abs1 Abs Abs1 1",
                   "        ^    ^    ^   ^     ")
        self.check("Abcdefghijklmnop := +; Abcdefghijklmnop Abcdefghijklmnop 1",
                   "                    ^  ^                ^               ")

    def test_the_word_that_a_statement_gives_is_none(self):
        self.check("F\n:=\n+\n;\n1",
                   "     ^")
        self.check("F:=+;G:=-;1",
                   "   ^    ^  ")

    def test_bodies(self):
        self.check("{x} 1",
                   "^    ")
        self.check("1 {y - x} 2",
                   "  ^  ^     ")
        self.check("{{x} y} 1",
                   "^^       ")
        self.check("{- {x + y} - x} 1 + {x} 2",
                   "^^ ^  ^    ^      ^ ^    ")
        self.check("{{{- x} - x} - x} - 1",
                   "^^^^    ^    ^    ^  ")
        self.check("({x} 1) {y} ({x} 2)",
                   " ^      ^    ^     ")

    def test_a_modified_function_is_none(self):
        self.check("+:fold:scan:table:swap:at 3 1",
                   "^                            ")
        self.check("{+:fold x}:scan 1",
                   "^^               ")
        self.check("1 Max :table\t:swap 2",
                   "  ^")

    def test_in_statements_of_both_kinds(self):
        self.check("a := 1 + 2; a * a",
                   "       ^      ^  ")
        self.check("a := - {x} 1; F := {a - x}:at 1; b := F a; b Max F a",
                   "     ^ ^           ^  ^               ^      ^   ^  ")
        self.check("F := {x}; G := {F x}; 1",
                   "     ^         ^^      ")

    def test_in_statements_that_nothing_mentions(self):
        self.check("a := - 1; F := *; 1",
                   "     ^         ^   ")

    def test_behind_comments_and_blanks(self):
        self.check("# + {\n - # -\n1",
                   "       ^ ")
        self.check("  \t-\r\n-\n 1 # + 2",
                   "   ^  ^ ")
        self.check("#\n#\n  1 #\n+#+\n#+\n2",
                   "          ^")


class Edges(unittest.TestCase):
    def test_no_atom(self):
        for words in ["1", "a", "1 _2 3", "(((a)))", "a := 1; b := a; b", " # + \n 1"]:
            self.assertEqual(programs.atoms(as_bytes(words)), [0], words)

    def test_positions_up_to_the_texts_end(self):
        self.assertEqual(atoms(" " * 2045 + "1+2"), [2046])
        self.assertEqual(atoms("#" * 2044 + "\n1+2"), [2046])
        self.assertEqual(atoms(" " * 2046 + "-1"), [2046])
        self.assertEqual(atoms(" " * 2046 + "1+2"), -1)

    def test_as_many_as_can_stand_in_a_text(self):
        words = "(" + "-" * 37 + "1)" + "+1"
        statements = "".join(f"A{letter}:={{{'-' * 37}1}};" for letter in "ABCDEFGHIJKLMNOPQRSTUVWXYZabcdefghijklmnop")
        self.assertLessEqual(len(statements + words), 2048)
        expected = []
        for number in range(42):
            begin = 45 * number + 4
            expected += [begin] + list(range(begin + 1, begin + 38))
        begin = len(statements)
        expected += list(range(begin + 1, begin + 38)) + [begin + 40]
        self.assertEqual(atoms(statements + words), expected)

    def test_levels_and_depth(self):
        self.assertEqual(atoms("(" * 29 + "1" + ")+1" * 29), list(range(31, 31 + 3 * 29, 3)))
        self.assertEqual(atoms("(" * 30 + "1" + ")+1" * 30), -4)
        self.assertEqual(atoms("{" * 19 + "-x" + "} 1" * 19), list(range(20)))
        self.assertEqual(atoms("{" * 20 + "-x" + "} 1" * 20), -7)
        self.assertEqual(atoms("-" * 39 + "1"), list(range(39)))
        self.assertEqual(atoms("-" * 40 + "1"), -7)

    def test_a_plain_form_of_more_than_2048_bytes_is_no_refusal(self):
        words = "-1" + "_1" * 1021 + "-2"
        self.assertEqual(plain(words), -8)
        self.assertEqual(atoms(words), [0, 2044])

    def test_refusals(self):
        self.assertEqual(set(REFUSED.values()), set(range(-7, 0)))
        for words, refusal in REFUSED.items():
            self.assertEqual(programs.atoms(as_bytes(words)), [refusal], words)

    def test_refusals_with_atoms_ahead(self):
        self.assertEqual(atoms("-1" + " " * 2047), -1)
        self.assertEqual(atoms("1 + 2 - $"), -2)
        self.assertEqual(atoms("1 + 2 -"), -3)
        self.assertEqual(atoms("1 + 2 - " + "(" * 30), -4)
        self.assertEqual(atoms("1 + 2 - Foo 1"), -5)
        self.assertEqual(atoms("F := +; F := -; 1"), -6)
        self.assertEqual(atoms("1 + 2 +" + "-" * 50 + "c"), -7)

    def test_what_is_handed_in_and_given_back(self):
        for words in ["F := {x + y}; 1 F:table 2 3", "0", "1 +", "-" * 40 + "1"]:
            text = as_bytes(words)
            answer = programs.atoms(text)
            self.assertEqual(text, as_bytes(words))
            self.assertIs(type(answer), list)
            self.assertEqual({type(number) for number in answer}, {int})
            kept = list(answer)
            answer.append(0)
            self.assertEqual(programs.atoms(text), kept)

    def test_the_arguments_name(self):
        self.assertEqual(programs.atoms(text=as_bytes("-1")), [0, 0])


def is_atom(token, behind):
    """Whether a token is an ATOM's first one; behind: the token behind it."""
    return token == "{" or token in PRIMITIVES or token[0].isupper() and behind != ":="


class Spread(unittest.TestCase):
    """Programs made at random, with blanks, comments and parentheses spread over them."""

    def test_programs(self):
        source = random.Random(7)
        seen, most = 0, 0
        for program in made_programs(source, 6000):
            tokens = program_tokens(program, source)
            words, places = laid_out(tokens, source)
            if len(words) > 2048:
                continue
            behind = tokens[1:] + [""]
            expected = [place for place, token, after in zip(places, tokens, behind) if is_atom(token, after)]
            self.assertEqual(atoms(words), expected, words)
            seen += 1
            most = max(most, len(expected))
        self.assertGreater(seen, 5000)
        self.assertGreater(most, 40)


if __name__ == "__main__":
    unittest.main()
