"""NAME and TWICE, by hand and against their words in the document."""

import random
import unittest

from helper import where

PRIMITIVES = ("Abs And Count Div Drop Find First Flip Grade Iota Join Keep Max Min Mod Not Or Pick Ravel Reshape "
              "Rotate Same Shape Sign Take Turn Where").split()


def least_fault(statements, last):
    """The answer of where for a list of (name, tokens) and the last tokens; each token ends with one blank."""
    faults, given, inputs, place = [], set(), set(), 0
    for name, tokens in statements + [(None, last)]:
        begin, own, bodies = place, set(), 0
        if name:
            place += len(name + " := ")
        for token in tokens:
            bodies += (token == "{") - (token == "}")
            if token in "xy":
                if bodies == 0:
                    faults.append((place, 5))
            elif token[0].islower() and token not in given:
                own.add(token)
            elif token[0].isupper() and token not in given and token not in PRIMITIVES:
                faults.append((place, 5))
            place += len(token) + 1
        if name:
            place += len("; ")
            if name in given | inputs | own or name in "xy" or name in PRIMITIVES:
                faults.append((begin, 6))
            given.add(name)
        inputs |= own
    return [min(faults)[1], min(faults)[0]] if faults else [0, 0]


class Names(unittest.TestCase):
    def name(self, words, position):
        self.assertEqual(where(words), [5, position], words)

    def twice(self, words, position):
        self.assertEqual(where(words), [6, position], words)

    def fine(self, words):
        self.assertEqual(where(words), [0, 0], words)

    def test_the_27_words(self):
        self.assertEqual(len(PRIMITIVES), 27)
        for word in PRIMITIVES:
            self.fine(f"{word} 1")
            self.name(f"{word}a 1", 0)
            self.name(f"1 {word.upper()} 1", 2)
            self.twice(f"{word} := +; 1", 0)

    def test_arguments(self):
        self.fine("{x + y} 1")
        self.fine("{{y} x} 1")
        self.fine("F := {x}; F 1")
        self.fine("xy + yx")
        self.name("1 + y", 4)
        self.name("{x} x", 4)
        self.name("({x} 1) + x", 10)
        self.name("{{x} 1} y", 8)
        self.name("a := x; 1", 5)
        self.twice("x := 1; 1", 0)
        self.twice("a := 1; y := 1; 1", 8)
        self.twice("x := x; 1", 0)

    def test_function_words(self):
        self.fine("F := +; G := F:fold; 1 G F 2")
        self.fine("F := +; G := {F x}; G 1")
        self.name("F := F; 1", 5)
        self.name("F := {1 + F x}; 1", 10)
        self.name("F := G; G := +; 1", 5)
        self.name("a := F 1; F := +; a", 5)
        self.name("{1 + Foo x} 1", 5)
        self.twice("F := +; F := -; 1", 8)
        self.twice("F := +; F := F; 1", 8)

    def test_array_names(self):
        self.fine("a := b; c := a; b + c")
        self.fine("a := 1; {a + x} a")
        self.twice("a := 1; a := 2; a", 8)
        self.twice("a := 1; a := a; a", 8)
        self.twice("a := {x + a} 1; 1", 0)
        self.twice("a := 1 + (2 * a); 1", 0)
        self.twice("F := {a}; a := 1; 1", 10)
        self.twice("b := 1; c := a; d := 2; a := 1; 1", 24)
        self.fine("a := 1; b := a; a")

    def test_the_least_position_counts(self):
        self.twice("a := Foo a; 1", 0)
        self.name("a := Foo 1; a := 2; 1", 5)
        self.name("b := a; c := x; a := 1; 1", 13)
        self.twice("Abs := Foo; 1", 0)
        self.twice("a := 1; a := x; Foo 1", 8)

    def test_against_the_documents_words(self):
        source = random.Random(5)
        counts = {0: 0, 5: 0, 6: 0}
        for _ in range(20000):
            statements = []
            for _ in range(source.randint(0, 4)):
                name = source.choice(["a", "b", "c", "d", "x", "F", "G", "H", "Abs"])
                tokens = self.function(source) if name[0].isupper() else self.expression(source, 0)
                statements.append((name, tokens))
            last = self.expression(source, 0)
            words = "".join(f"{name} := {' '.join(tokens)} ; " for name, tokens in statements) + " ".join(last)
            answer = where(words)
            self.assertEqual(answer, least_fault(statements, last), words)
            counts[answer[0]] += 1
        self.assertGreater(min(counts.values()), 2000)

    def expression(self, source, bodies):
        choice = source.randrange(5)
        if choice == 0 or bodies > 2:
            return [source.choice(["1", "a", "b", "c", "d"] + ["x", "y"] * (bodies > 0 or source.random() < 0.1))]
        if choice == 1:
            return ["("] + self.expression(source, bodies) + [")", "+", "1"]
        if choice == 2:
            return [source.choice(["a", "b", "1", "1"])] + self.function(source) + ["1"]
        if choice == 3:
            return ["{"] + self.expression(source, bodies + 1) + ["}", source.choice(["1", "a", "c"])]
        return [source.choice(["+", "Iota", "F", "G"]), source.choice(["1", "2", "b"])]

    def function(self, source):
        if source.random() < 0.3:
            return ["{"] + self.expression(source, 1) + ["}"]
        return [source.choice(["+", "Iota", "F", "G", "H"])]


if __name__ == "__main__":
    unittest.main()
