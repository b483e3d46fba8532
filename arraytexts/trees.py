"""The trees of programs."""

APPLIED_KINDS = ("one", "two")


class Node:
    """An expression or a function.

    The kinds of expressions: "numbers", "name", "one" (parts: function, operand), "two" (parts:
    left, function, right). The kinds of functions: "primitive", "given", "body" (part: its
    expression), "modified" (word: the modifier, numbers: the RANK if there is one, part: the
    function). What a kind doesn't need is empty.
    """

    def __init__(self, kind, word, numbers, parts):
        self.kind = kind
        self.word = word
        self.numbers = numbers
        self.parts = parts
        # Kept from the start: a tree that may be deep can't be gone down by calls, and one whose parts stand in it
        # many times, as the same objects, can't be gone through at all.
        self.depth = 1 + max([part.depth for part in parts], default=0)
        self.levels = levels_of(kind, parts)
        self.nodes = 1 + sum([part.nodes for part in parts])


def levels_of(kind, parts):
    """How many levels the plain form has, from that of the EXPR that the node is, or in which it stands, on."""
    levels = [part.levels for part in parts]
    if kind == "body" or (kind == "two" and is_applied(parts[0])):
        levels[0] += 1
    return max(levels, default=1)


def is_applied(node):
    """Whether it's a function of one or of two: these stand in parentheses as left operands."""
    return node.kind in APPLIED_KINDS


class Statement:
    """A STMT: the name that it gives, and the expression or function that the name stands for."""

    def __init__(self, name, node):
        self.name = name
        self.node = node


class Program:
    """The STMTs and the expression behind them, the positions of the ATOMs, and the names of the inputs."""

    def __init__(self, statements, expression, atoms, inputs):
        self.statements = statements
        self.expression = expression
        self.atoms = atoms
        self.inputs = inputs
        self.depth = max([statement.node.depth for statement in statements] + [expression.depth])


def numbers_node(numbers):
    return Node("numbers", "", numbers, [])


def word_node(kind, word):
    """A name, a primitive or a given function."""
    return Node(kind, word, [], [])


def body_node(expression):
    return Node("body", "", [], [expression])


def modified_node(modifier, rank, function):
    """A modified function; rank is a list that is empty but for :at."""
    return Node("modified", modifier, rank, [function])


def applied_node(left, function, right):
    """A function of two, or of one if left is None."""
    if left is None:
        return Node("one", "", [], [function, right])
    return Node("two", "", [], [left, function, right])
