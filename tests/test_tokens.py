"""The faults in cutting, by hand and against a cutting by regular expressions."""

import random
import re
import unittest

from arraytexts import programs
from helper import as_bytes, where

GOOD = re.compile(
    rb"[ \t\n\r]|#[^\n]*(?:\n|\Z)|_[1-9][0-9]*|(?:0|[1-9][0-9]*)(?![0-9])"
    rb"|[a-zA-Z][a-zA-Z0-9]*|:=|<=|/=|:(?:fold|scan|table|swap|at)(?![a-zA-Z0-9])|[(){};+\-*<=]")


def first_fault(text):
    """The position of the first fault in cutting, or None."""
    place = 0
    while place < len(text):
        found = GOOD.match(text, place)
        if not found:
            return place
        token = found.group()
        digits = token.lstrip(b"_")
        if digits.isdigit() and int(digits) > 10**18:
            return place
        if token[:1].isalpha() and len(token) > 16:
            return place
        place = found.end()
    return None


class Tokens(unittest.TestCase):
    def fault(self, words, position):
        self.assertEqual(where(words), [2, position], words)

    def fine(self, words):
        self.assertEqual(where(words), [0, 0], words)

    def test_each_byte_by_itself(self):
        begun = as_bytes("(){};+-*<=abcdefghijklmnopqrstuvwxyzABCDEFGHIJKLMNOPQRSTUVWXYZ0123456789# \t\n\r")
        for byte in range(256):
            answer = programs.where([49, byte])
            if byte in begun:
                self.assertNotEqual(answer[0], 2, byte)
            else:
                self.assertEqual(answer, [2, 1], byte)

    def test_bytes_within_comments_may_be_any(self):
        rest = [byte for byte in range(256) if byte != 10]
        self.assertEqual(programs.where([49, 35] + rest), [0, 0])
        self.assertEqual(programs.where([49, 35] + rest + [10, 36]), [2, 258])
        self.assertEqual(programs.where([49, 35, 13, 36]), [0, 0])

    def test_digits(self):
        self.fine("1000000000000000000")
        self.fine("999999999999999999")
        self.fine("_1000000000000000000")
        self.fault("1000000000000000001", 0)
        self.fault("1 _1000000000000000001", 2)
        self.fault("9999999999999999999", 0)
        self.fault("10000000000000000000", 0)
        self.fault("_10000000000000000000", 0)
        self.fault("0" * 19 + "1", 0)
        self.fault("9" * 2048, 0)

    def test_zeros(self):
        self.fine("0")
        self.fine("10")
        self.fault("00", 0)
        self.fault("1 01", 2)
        self.fault("_0", 0)
        self.fault("_01", 0)
        self.fault("+:at 00 1", 5)

    def test_underlines(self):
        self.fine("_1_2")
        self.fault("_", 0)
        self.fault("_a", 0)
        self.fault("__1", 0)
        self.fault("_ 1", 0)
        self.fault("1_", 1)

    def test_names_of_16_and_17_bytes(self):
        self.fine("a" * 16)
        self.fault("a" * 17, 0)
        self.fine("aZ09" * 4)
        self.fault("1 + " + "aZ09" * 4 + "0", 4)
        self.fine("F" * 16 + " := +; 1 " + "F" * 16 + " 2")
        self.fault("F" * 17 + " := +; 1", 0)

    def test_colons(self):
        self.fine("a:=1;a")
        self.fine("+:fold:scan:table:swap:at 1 2")
        self.fault(":", 0)
        self.fault("a : = 1; a", 2)
        self.fault("+:Fold 1", 1)
        self.fault("+:fold1 1", 1)
        self.fault("+:foldX 1", 1)
        self.fault("+:fol 1", 1)
        self.fault("+:at1 1", 1)
        self.fault("+:1 1", 1)
        self.fault("+: fold 1", 1)

    def test_signs_of_two_bytes(self):
        self.fine("1 <= 2 /= 3")
        self.fault("1 / 2", 2)
        self.fault("1 / = 2", 2)
        self.fault("1 > 2", 2)
        self.fault("1 >= 2", 2)

    def test_the_first_from_the_left(self):
        self.fault("1 $ _0", 2)
        self.fault("1 _0 $", 2)

    def test_against_regular_expressions(self):
        source = random.Random(2)
        pieces = ["0", "1", "_", "a", "B", "x" * 15, ":", "=", "<", "/", "+", ":fold", ":at", "#", "\n", " ", "(", "$",
                  "99999999999999999", "10000000000000000"]
        faults = 0
        for _ in range(20000):
            words = "".join(source.choice(pieces) for _ in range(source.randint(0, 8)))
            answer = where(words)
            expected = first_fault(words.encode())
            if expected is None:
                self.assertNotEqual(answer[0], 2, words)
            else:
                faults += 1
                self.assertEqual(answer, [2, expected], words)
        self.assertGreater(faults, 5000)


if __name__ == "__main__":
    unittest.main()
