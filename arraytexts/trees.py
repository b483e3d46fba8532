"""The trees of programs."""


class Node:
    """An expression or a function.

    The kinds of expressions: "numbers", "name", "one" (parts: function, operand), "two" (parts:
    left, function, right). The kinds of functions: "primitive", "given", "body" (part: its
    expression), "modified" (word: the modifier, numbers: the RANK if there is one, part: the
    function). What a kind doesn't need is empty.
    """

    def __init__(self, kind, word, numbers, parts):
        self.kind = kind
        self.word = word
        self.numbers = numbers
        self.parts = parts
        # Kept from the start, as a tree that is not yet known to be shallow can't be gone down.
        self.depth = 1 + max([part.depth for part in parts], default=0)


class Statement:
    """A STMT: the name that it gives, and the expression or function that the name stands for."""

    def __init__(self, name, node):
        self.name = name
        self.node = node


class Program:
    """The STMTs and the expression behind them, the positions of the ATOMs, and the names of the inputs."""

    def __init__(self, statements, expression, atoms, inputs):
        self.statements = statements
        self.expression = expression
        self.atoms = atoms
        self.inputs = inputs
        self.depth = max([statement.node.depth for statement in statements] + [expression.depth])


def numbers_node(numbers):
    return Node("numbers", "", numbers, [])


def word_node(kind, word):
    """A name, a primitive or a given function."""
    return Node(kind, word, [], [])


def body_node(expression):
    return Node("body", "", [], [expression])


def modified_node(modifier, rank, function):
    """A modified function; rank is a list that is empty but for :at."""
    return Node("modified", modifier, rank, [function])


def applied_node(left, function, right):
    """A function of two, or of one if left is None."""
    if left is None:
        return Node("one", "", [], [function, right])
    return Node("two", "", [], [left, function, right])
