"""Promise 7: the program without STMTs."""

import random
import time
import unittest

from arraytexts import programs
from helper import (REFUSED, as_bytes, depth_of, flat, form_of, inputs, loose_of, made_programs, node_form,
                    numbers_of, plain, tree, where)


class Flat(unittest.TestCase):
    def check(self, words, form):
        self.assertEqual(flat(words), form, words)
        self.assertEqual(flat(form), form, form)
        self.assertEqual(plain(form), form, form)

    def test_the_documents_examples(self):
        self.check("a:=3;( 2*a)+ Iota 4", "(2 * 3) + Iota 4")
        self.check("F := {x + y}; 1 F:table 2 3", "1 {x + y}:table 2 3")
        self.check("1 - - _2", "1 - - _2")
        self.check("+:fold 2 * Iota 10", "+:fold 2 * Iota 10")

    def test_the_numbers_answered(self):
        self.assertEqual(programs.flat(as_bytes("a:=-1;a")), [0, 45, 32, 49])
        self.assertEqual(programs.flat(as_bytes("F:=<=;a F:at 0 b")), [0] + as_bytes("a <=:at 0 b"))

    def test_without_statements_it_is_the_plain_form(self):
        self.check("(1)+(2*3)", "1 + 2 * 3")
        self.check("((1+2))*{(x)}:fold a", "(1 + 2) * {x}:fold a")
        self.check("1_2#", "1 _2")

    def test_array_names(self):
        self.check("a := 1; a", "1")
        self.check("a := 1 _2; b := 3; a + b * a", "1 _2 + 3 * 1 _2")
        self.check("a := 1; 2", "2")
        self.check("a := b; a + c", "b + c")
        self.check("a := 1000000000000000000_1000000000000000000; Abs a",
                   "Abs 1000000000000000000 _1000000000000000000")
        self.check("abcdefghijklmnop := 1; abcdefghijklmnop + abcdefghijklmno", "1 + abcdefghijklmno")
        self.check("a := 2 3; +:at 1 a", "+:at 1 2 3")

    def test_a_name_that_stands_for_a_function_of_one(self):
        self.check("a := - 1; a + 2", "(- 1) + 2")
        self.check("a := - 1; 2 + a", "2 + - 1")
        self.check("a := - 1; (a) + (a)", "(- 1) + - 1")
        self.check("a := - 1; ((a + a)) * 3", "((- 1) + - 1) * 3")
        self.check("a := - 1; Iota a", "Iota - 1")
        self.check("a := - 1; {a} a", "{- 1} - 1")

    def test_a_name_that_stands_for_a_function_of_two(self):
        self.check("a := 1 * 2; a + 2", "(1 * 2) + 2")
        self.check("a := 1 * 2; 2 + a", "2 + 1 * 2")
        self.check("a := (1 * 2); (a) + (a)", "(1 * 2) + 1 * 2")
        self.check("a := 1 * 2; (a + a) * a", "((1 * 2) + 1 * 2) * 1 * 2")
        self.check("a := 1 * 2; - a", "- 1 * 2")
        self.check("a := (1 * 2) * 3; a * (a)", "((1 * 2) * 3) * (1 * 2) * 3")

    def test_a_name_that_stands_for_numbers_or_an_input_needs_no_parentheses(self):
        self.check("a := ((1 2)); a + 3", "1 2 + 3")
        self.check("a := (b); (a) + a", "b + b")

    def test_given_functions(self):
        self.check("F := +; F 1", "+ 1")
        self.check("F := +; 1 F 2", "1 + 2")
        self.check("F := Max; G := F; 1 G F 2", "1 Max Max 2")
        self.check("F := {x}; F F 1", "{x} {x} 1")
        self.check("F := {(x) - y}; (1 F 2) F 3", "(1 {x - y} 2) {x - y} 3")
        self.check("Abs1 := Abs; Abs1 Abs 1", "Abs Abs 1")
        self.check("Abcdefghijklmnop := <=; 1 Abcdefghijklmnop 2", "1 <= 2")
        self.check("f := 1; F := -; f F f", "1 - 1")

    def test_modifiers_behind_and_within(self):
        self.check("F := +:fold; F 1", "+:fold 1")
        self.check("F := +; F:fold 1", "+:fold 1")
        self.check("F := +:fold; F:at 2 1", "+:fold:at 2 1")
        self.check("F := +:at 3; F:at 2:swap 1 2", "+:at 3:at 2:swap 1 2")
        self.check("F := {x}:scan; G := F:table; 1 G:swap 2", "1 {x}:scan:table:swap 2")
        self.check("F := -; {F:fold x}:at 0 1", "{-:fold x}:at 0 1")

    def test_in_bodies(self):
        self.check("a := 5; {x + a} 1", "{x + 5} 1")
        self.check("a := 5 * 6; {a + x} 1", "{(5 * 6) + x} 1")
        self.check("a := 5 * 6; {a} 1", "{5 * 6} 1")
        self.check("F := -; {F x} 1", "{- x} 1")
        self.check("F := {- x}; {F {F y} x} 1", "{{- x} {{- x} y} x} 1")

    def test_in_statements_by_what_earlier_ones_gave(self):
        self.check("a := 1; b := a + a; c := b * a; c", "(1 + 1) * 1")
        self.check("F := +; a := F:fold b; G := {a F x}; c := G a; c - a",
                   "({(+:fold b) + x} +:fold b) - +:fold b")
        self.check("F := {x}; G := {F y}; H := {G x - y}; 1 H 2", "1 {{{x} y} x - y} 2")

    def test_arguments_and_inputs_stay(self):
        self.check("a := b; F := {x + a * y}; {F x} c", "{{x + b * y} x} c")
        self.check("a := x1 + y1; {a + x * y} b", "{(x1 + y1) + x * y} b")
        self.check("b + a * b", "b + a * b")


class Deep(unittest.TestCase):
    def test_depth_40_and_41(self):
        self.assertEqual(flat("a := " + "-" * 20 + "1; " + "-" * 19 + "a"), "- " * 39 + "1")
        self.assertEqual(flat("a := " + "-" * 20 + "1; " + "-" * 20 + "a"), -9)
        self.assertEqual(flat("F := +" + ":fold" * 20 + "; F" + ":scan" * 18 + " 1"),
                         "+" + ":fold" * 20 + ":scan" * 18 + " 1")
        self.assertEqual(flat("F := +" + ":fold" * 20 + "; F" + ":scan" * 19 + " 1"), -9)
        self.assertEqual(flat("F := {" + "-" * 37 + "x}; F 1"), "{" + "- " * 37 + "x} 1")
        self.assertEqual(flat("F := {" + "-" * 38 + "x}; F 1"), -9)
        self.assertEqual(flat("F := {" + "-" * 38 + "x}; 1"), "1")
        self.assertEqual(flat("a := " + "-" * 38 + "1; a + 1"), "(" + "- " * 38 + "1) + 1")
        self.assertEqual(flat("a := " + "-" * 39 + "1; a + 1"), -9)
        self.assertEqual(flat("a := " + "-" * 39 + "1; 1 + a"), -9)
        self.assertEqual(flat("a := " + "-" * 38 + "1; {a} 1"), -9)
        self.assertEqual(flat("a := " + "-" * 37 + "1; {a} 1"), "{" + "- " * 37 + "1} 1")

    def test_one_step_in_each_of_many_statements(self):
        for count in (1, 2, 39):
            self.assertEqual(flat(chain("1", "-{0}", count)), "- " * count + "1")
        for count in (40, 41, 150):
            self.assertEqual(flat(chain("1", "-{0}", count)), -9)

    def test_level_30_and_31_by_parentheses(self):
        for count in (1, 15, 28, 29):
            self.assertEqual(flat(chain("1+2", "{0}+3", count)), "(" * count + "1 + 2" + ") + 3" * count)
        for count in (30, 31, 37, 38):
            self.assertEqual(flat(chain("1+2", "{0}+3", count)), -9)
        half = "a:=" + "(" * 15 + "1+2" + ")+3" * 15 + ";"
        self.assertEqual(flat(half + "(" * 13 + "a+4" + ")+5" * 13),
                         "(" * 29 + "1 + 2" + ") + 3" * 15 + ") + 4" + ") + 5" * 13)
        self.assertEqual(flat(half + "(" * 14 + "a+4" + ")+5" * 14), -9)

    def test_level_31_at_a_depth_of_less_than_40(self):
        words = chain("1+2", "{0}+3", 30)
        node = ("two", ("numbers", 1), ("primitive", "+"), ("numbers", 2))
        for _ in range(30):
            node = ("two", node, ("primitive", "+"), ("numbers", 3))
        self.assertEqual(depth_of(node), 32)
        self.assertEqual(where(node_form(node))[0], 4)
        self.assertEqual(flat(words), -9)

    def test_depth_41_at_level_1(self):
        self.assertEqual(flat(chain("1", "2+{0}", 39)), "2 + " * 39 + "1")
        self.assertEqual(flat(chain("1", "2+{0}", 40)), -9)

    def test_level_30_and_depth_40_at_once(self):
        words = chain("-" * 9 + "1", "{0}+3", 29)
        self.assertEqual(flat(words + "+4"), -9)
        self.assertEqual(flat("b:=" + "-" * 10 + "1;" + words.replace("a0:=" + "-" * 9 + "1", "a0:=b")),
                         "(" * 29 + "- " * 10 + "1" + ") + 3" * 29)
        self.assertEqual(flat("b:=" + "-" * 11 + "1;" + words.replace("a0:=" + "-" * 9 + "1", "a0:=b")), -9)

    def test_level_30_and_31_by_bodies(self):
        # Bodies alone come to depth 41 before they come to level 31.
        statements = "F:={{{{{x}1}1}1}1};a:=" + "(" * 23 + "F 1" + ")+2" * 23 + ";"
        form = "(" * 23 + "{{{{{x} 1} 1} 1} 1} 1" + ") + 2" * 23
        self.assertEqual(flat(statements + "a+3"), f"({form}) + 3")
        self.assertEqual(flat(statements + "(a+3)+4"), -9)
        self.assertEqual(flat(statements + "{a} 4"), f"{{{form}}} 4")
        self.assertEqual(flat(statements + "{a+3} 4"), -9)
        self.assertEqual(flat(statements + "{{a} 3} 4"), -9)
        self.assertEqual(flat(statements + "({a} 3)+4"), -9)
        self.assertEqual(flat(statements + "4-{a} 3"), f"4 - {{{form}}} 3")

    def test_the_level_is_that_of_the_plain_form(self):
        words = "(" * 29 + "a" + ")" * 29
        self.assertEqual(flat("a:=1+2;" + words), "1 + 2")
        self.assertEqual(flat("b:=" + "(" * 20 + "1+2" + ")" * 20 + ";a:=" + "(" * 20 + "b+3" + ")" * 20 + ";" + words),
                         "(1 + 2) + 3")
        # Right operands stand at the level of the EXPR around them.
        self.assertEqual(flat("a:=" + "(" * 28 + "1+2" + ")+3" * 28 + ";4+5+6+a"),
                         "4 + 5 + 6 + " + "(" * 28 + "1 + 2" + ") + 3" * 28)
        self.assertEqual(flat("a:=" + "(" * 28 + "1+2" + ")+3" * 28 + ";4+5+(a)+6"),
                         "4 + 5 + " + "(" * 29 + "1 + 2" + ") + 3" * 28 + ") + 6")
        self.assertEqual(flat("a:=" + "(" * 28 + "1+2" + ")+3" * 28 + ";4+5+((a)+6)+7"), -9)
        self.assertEqual(flat("a:=" + "(" * 28 + "1+2" + ")+3" * 28 + ";{a}:fold 4"),
                         "{" + "(" * 28 + "1 + 2" + ") + 3" * 28 + "}:fold 4")
        self.assertEqual(flat("a:=" + "(" * 28 + "1+2" + ")+3" * 28 + ";{{a} 4}:fold 5"), -9)

    def test_what_nothing_mentions_may_be_too_deep(self):
        self.assertEqual(flat(chain("1", "-{0}", 60).rpartition(";")[0] + ";a30"), "- " * 30 + "1")
        self.assertEqual(flat(chain("1+2", "{0}+3", 60).rpartition(";")[0] + ";a2"), "((1 + 2) + 3) + 3")
        self.assertEqual(flat("a:=" + "-" * 30 + "1;F:={" + "-" * 30 + "a};b:=F a;- 1"), "- 1")


def chain(first, step, count):
    """a0 := first, then so many STMTs, each a step from the one before, then the last one's name."""
    words = f"a0:={first};"
    for number in range(count):
        words += f"a{number + 1}:=" + step.replace("{0}", f"a{number}") + ";"
    return words + f"a{count}"


class Long(unittest.TestCase):
    def check_the_edge(self, words, form):
        """Numbers are put behind both, until the form has 2048 bytes, and 2049."""
        for length in (2047, 2048):
            more = numbers_of_length(length - len(form))
            self.assertEqual(flat(words + more), form + more, words)
        self.assertEqual(flat(words + numbers_of_length(2049 - len(form))), -8, words)

    def test_a_plain_form_of_2048_and_of_2049_bytes(self):
        ones = numbers_of_length(975)
        self.check_the_edge("1" + "-1" * 30 + "-", "1" + " - 1" * 30 + " - ")
        self.check_the_edge(f"a := {ones}; a + a + ", f"{ones} + {ones} + ")
        self.check_the_edge(f"a := - {ones}; a + (a - 1) + ", f"(- {ones}) + ((- {ones}) - 1) + ")
        self.check_the_edge(f"F := {{{ones}}}; F F:at 5 ", f"{{{ones}}} {{{ones}}}:at 5 ")
        self.check_the_edge(f"F := {{{ones}}}:at 3; (1 F 1) F:swap ", f"(1 {{{ones}}}:at 3 1) {{{ones}}}:at 3:swap ")
        self.check_the_edge(f"a := _1; b := a + {ones}; Abs b + b - ", f"Abs (_1 + {ones}) + (_1 + {ones}) - ")

    def test_a_plain_form_of_far_more_than_2048_bytes(self):
        ones = numbers_of_length(975)
        self.assertEqual(flat(f"a := {ones}; a + a + a"), -8)
        self.assertEqual(flat(f"a := {ones}; a" + " + a" * 39), -8)
        self.assertEqual(flat("1" + "_1" * 1023), -8)

    def test_a_plain_form_of_the_program_that_is_too_long_itself(self):
        words = "a:=1;" + "".join(f"a{number}:=a;" for number in range(200)) + "a199"
        self.assertEqual(plain(words), -8)
        self.assertEqual(flat(words), "1")

    def check_soon(self, words, refusal):
        """The refusal comes soon: what would be written out is never made."""
        begun = time.monotonic()
        self.assertEqual(flat(words), refusal, words)
        self.assertLess(time.monotonic() - begun, 5, words)

    def test_doubled_from_one_to_the_next(self):
        self.assertEqual(flat(chain("1+2", "{0}+{0}", 2)), "((1 + 2) + 1 + 2) + (1 + 2) + 1 + 2")
        for count in range(9, 30):
            self.check_soon(chain("1+2", "{0}+{0}", count), -8)
        for count in (30, 39, 100, 140):
            self.check_soon(chain("1+2", "{0}+{0}", count), -9)
        self.check_soon(chain(numbers_of_length(1200), "{0}+{0}", 30), -8)
        self.check_soon(chain("b", "({0})+({0})+{0}", 19), -8)

    def test_functions_doubled_from_one_to_the_next(self):
        self.assertEqual(flat(functions(2) + "F2 1"), "{{- - x} {- - x} x} 1")
        for count in (9, 10, 11, 12):
            self.check_soon(functions(count) + f"F{count} 1", -8)
        for count in (13, 40, 100):
            self.check_soon(functions(count) + f"F{count} 1", -9)

    def test_too_deep_and_too_long_at_once(self):
        ones = numbers_of_length(1399)
        self.assertEqual(flat(f"a:={ones};b:=a+a;b"), -8)
        self.assertEqual(flat(f"a:={ones};b:=a+a;" + "-" * 38 + "b"), -8)
        self.assertEqual(flat(f"a:={ones};b:=a+a;" + "-" * 39 + "b"), -9)
        self.assertEqual(flat(f"a:={ones};b:=a+a;" + "(" * 28 + "b+1" + ")+1" * 28), -8)
        self.assertEqual(flat(f"a:={ones};b:=a+a;c:=b+1;" + "(" * 28 + "c+1" + ")+1" * 28), -9)

    def test_what_nothing_mentions_may_be_too_long(self):
        ones = numbers_of_length(1399)
        self.assertEqual(flat(f"a:={ones};b:=a+a+a;a"), ones)
        self.assertEqual(flat(f"a:={ones};b:=a+a+a;c:=b+b;F:={{c}};-1"), "- 1")
        self.assertEqual(flat(chain("1+2", "{0}+{0}", 140).rpartition(";")[0] + ";a1"), "(1 + 2) + 1 + 2")

    def test_many_statements(self):
        self.assertEqual(flat(chain("b", "{0}", 180)), "b")
        words = "".join(f"F{number}:=-;" for number in range(225)) + "F224 F0 1"
        self.assertLessEqual(len(words), 2048)
        self.assertEqual(flat(words), "- - 1")
        words = "F0:=+;" + "".join(f"F{number + 1}:=F{number};" for number in range(170)) + "1 F170 2"
        self.assertLessEqual(len(words), 2048)
        self.assertEqual(flat(words), "1 + 2")


def numbers_of_length(length):
    """Numbers that have so many bytes in the plain form."""
    return "12"[:2 - length % 2] + " 1" * ((length - 1) // 2)


def functions(count):
    """STMTs that give F0 to F.., each the one before of the one before."""
    return "F0:=-;" + "".join(f"F{number + 1}:={{F{number} F{number} x}};" for number in range(count))


class Wrong(unittest.TestCase):
    def test_refusals(self):
        self.assertEqual(set(REFUSED.values()), set(range(-7, 0)))
        for words, refusal in REFUSED.items():
            self.assertEqual(programs.flat(as_bytes(words)), [refusal], words)

    def test_reading_refuses_first(self):
        doubled = chain("1+2", "{0}+{0}", 20)
        deep = chain("1+2", "{0}+{0}", 40)
        for words, refusal in [(doubled, -8), (deep, -9)]:
            self.assertEqual(flat(words), refusal)
            self.assertEqual(flat(words + " " * 2048), -1)
            self.assertEqual(flat(words + "$"), -2)
            self.assertEqual(flat(words + "+"), -3)
            self.assertEqual(flat(words + "+" + "(" * 30), -4)
            self.assertEqual(flat(words + "+x"), -5)
            self.assertEqual(flat("a0:=1;" + words), -6)
            self.assertEqual(flat(words + "+" + "-" * 40 + "1"), -7)
            self.assertEqual(flat("b:=" + "-" * 40 + "1;" + words), -7)

    def test_what_is_handed_in_and_given_back(self):
        for words in ["a:=3;( 2*a)+ Iota:at 2 _4", "0", "1 +", chain("1+2", "{0}+{0}", 20), chain("1", "-{0}", 40)]:
            text = as_bytes(words)
            answer = programs.flat(text)
            self.assertEqual(text, as_bytes(words))
            self.assertIs(type(answer), list)
            self.assertEqual({type(number) for number in answer}, {int})
            kept = list(answer)
            answer.append(0)
            self.assertEqual(programs.flat(text), kept)

    def test_the_arguments_name(self):
        self.assertEqual(programs.flat(text=as_bytes("a:=1;a")), [0, 49])


def replaced(node, given):
    """The node with what was given in the place of its mentions."""
    if node[0] in ("name", "given"):
        return given.get(node[1], node)
    return tuple(replaced(part, given) if isinstance(part, tuple) else part for part in node)


def replaced_program(program):
    statements, expression = program
    given = {}
    for name, node in statements:
        given[name] = replaced(node, given)
    return replaced(expression, given)


def levels_of(form):
    """How many levels a plain form has: its EXPRs within others all stand in parentheses or braces."""
    level = most = 1
    for sign in form:
        level += (sign in "({") - (sign in ")}")
        most = max(most, level)
    return most


def chained(source):
    """A program of many STMTs, each a step from those before it; most steps are of one kind."""
    statements = []
    array, function = ("name", "b"), ("primitive", "*")
    mostly, count = source.randrange(9), source.randint(5, 50)
    for number in range(count):
        steps = steps_from(array, function)
        step = steps[mostly] if source.random() < 0.85 else source.choice(steps)
        if step[0] in ("body", "modified"):
            statements.append((f"F{number}", step))
            function = ("given", f"F{number}")
        else:
            statements.append((f"f{number}", step))
            array = ("name", f"f{number}")
    return statements, ("two", array, function, ("numbers", 1))


def steps_from(array, function):
    """Some expressions and functions that mention an array and a function that were given."""
    number, minus, x = ("numbers", 2), ("primitive", "-"), ("name", "x")
    return [("one", minus, array), ("two", number, minus, array), ("two", array, minus, number),
            ("two", array, function, number), ("one", ("body", array), number), ("modified", ":swap", None, function),
            ("body", ("one", function, x)), ("body", ("two", array, function, x)), ("two", array, minus, array)]


def node_count(program):
    """How many nodes the program has when it's written out."""
    statements, expression = program
    counts = {}

    def count(node):
        if node[0] in ("name", "given"):
            return counts.get(node[1], 1)
        return 1 + sum(count(part) for part in node if isinstance(part, tuple))

    for name, node in statements:
        counts[name] = count(node)
    return count(expression)


class Spread(unittest.TestCase):
    """Programs made at random, with blanks, comments and parentheses spread over them."""

    def test_programs(self):
        source = random.Random(8)
        seen = 0
        for program in made_programs(source, 4000):
            loose = loose_of(program, source)
            if len(loose) > 2048:
                continue
            node = replaced_program(program)
            form = node_form(node)
            if len(form) > 2048:
                self.assertEqual(flat(loose), -8, loose)
                continue
            seen += bool(program[0])
            self.assertEqual(flat(loose), form, loose)
            self.assertEqual(flat(form), form)
            self.assertEqual(tree(form), numbers_of(([], node)))
            self.assertLessEqual(set(inputs(form)), set(inputs(loose)))
        self.assertGreater(seen, 2000)

    def test_programs_of_many_statements(self):
        source = random.Random(9)
        counts = {"deep alone": 0, "levels alone": 0, "both": 0, "long": 0, "form": 0}
        for _ in range(3000):
            program = chained(source)
            words = form_of(program)
            if node_count(program) > 5000:
                self.assertIn(flat(words), (-8, -9), words)
                continue
            node = replaced_program(program)
            form, depth = node_form(node), depth_of(node)
            levels = levels_of(form)
            expected = -9 if depth > 40 or levels > 30 else -8 if len(form) > 2048 else form
            self.assertEqual(flat(words), expected, words)
            if len(form) <= 2048:
                fault = 4 if levels > 30 else 7 if depth > 40 else 0
                self.assertEqual(where(form)[0], fault, form)
            if expected == -9:
                counts["deep alone" if levels <= 30 else "levels alone" if depth <= 40 else "both"] += 1
            else:
                counts["long" if expected == -8 else "form"] += 1
        self.assertGreater(min(counts.values()), 20, counts)


if __name__ == "__main__":
    unittest.main()
