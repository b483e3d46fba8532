"""SYNTAX against the document's grammar itself: every run of some tokens is read by Earley's way."""

import unittest

from helper import where

GRAMMAR = {
    "PROGRAM": [["STMT", "PROGRAM"], ["EXPR", "end"]],
    "STMT": [["a", ":=", "EXPR", ";"], ["Abs", ":=", "FUN", ";"]],
    "EXPR": [["OPERAND"], ["OPERAND", "FUN", "EXPR"], ["FUN", "EXPR"]],
    "OPERAND": [["NUMBERS"], ["a"], ["(", "EXPR", ")"]],
    "NUMBERS": [["NUMBER"], ["NUMBER", "NUMBERS"]],
    "NUMBER": [["2"], ["7"]],
    "FUN": [["ATOM"], ["FUN", "MOD"]],
    "ATOM": [["+"], ["Abs"], ["{", "EXPR", "}"]],
    "MOD": [[":fold"], [":at", "RANK"]],
    "RANK": [["2"]],
}
TOKENS = ["2", "7", "a", "Abs", ":=", ":fold", ":at", "(", ")", "{", "}", ";", "+"]


def closed(states, charts):
    """All states that these bring with them; a state is (left side, right side, dot, origin)."""
    found = dict.fromkeys(states)
    queue = list(states)
    while queue:
        left, right, dot, origin = queue.pop()
        if dot == len(right):
            before = list(found) if origin == len(charts) else charts[origin]
            new = [(l, r, d + 1, o) for l, r, d, o in before if d < len(r) and r[d] == left]
        else:
            new = [(right[dot], tuple(rule), 0, len(charts)) for rule in GRAMMAR.get(right[dot], [])]
        for state in new:
            if state not in found:
                found[state] = None
                queue.append(state)
    return list(found)


def begun():
    return [closed([("PROGRAM", tuple(rule), 0, 0) for rule in GRAMMAR["PROGRAM"]], [])]


def gone_on(charts, token):
    """The charts with the token behind, or None if they can't go on with it."""
    moved = [(l, r, d + 1, o) for l, r, d, o in charts[-1] if d < len(r) and r[d] == token]
    return charts + [closed(moved, charts)] if moved else None


class Grammar(unittest.TestCase):
    def check_all(self, tokens, charts, more):
        words = " ".join(tokens)
        answer = where(words)
        if gone_on(charts, "end"):
            self.complete += 1
            self.assertNotIn(answer[0], [2, 3, 4], words)
        else:
            self.assertEqual(answer, [3, len(words)], words)
        for token in TOKENS if more else []:
            longer = gone_on(charts, token)
            if longer:
                self.check_all(tokens + [token], longer, more - 1)
            else:
                self.refused += 1
                position = len(words) + 1 if words else 0
                for rest in ["", " 2", " ;", " )"]:
                    self.assertEqual(where(f"{words} {token}{rest}".lstrip()), [3, position], words + " " + token)

    def test_every_run_of_tokens(self):
        self.complete = self.refused = 0
        self.check_all([], begun(), 5)
        self.assertGreater(self.complete, 500)
        self.assertGreater(self.refused, 5000)


if __name__ == "__main__":
    unittest.main()
