"""What the tests share: the calls, with words in the place of lists of bytes, and programs made at random.

A program made here is (statements, expression), with (name, node) for a statement. The nodes:
("numbers", n, ..), ("name", word), ("one", function, operand), ("two", left, function, right),
("primitive", word), ("given", word), ("body", expression), ("modified", modifier, rank or None, function).
"""

from arraytexts import programs


def as_bytes(words):
    return [ord(sign) for sign in words]


def told(answer):
    """What is answered behind a 0, or the refusal's number."""
    if answer[0] == 0:
        return answer[1:]
    assert len(answer) == 1, answer
    return answer[0]


def as_words(answer):
    """What is answered behind a 0 as words, or the refusal's number."""
    behind = told(answer)
    return "".join(chr(byte) for byte in behind) if isinstance(behind, list) else behind


def plain(words):
    """The plain form as words, or the refusal's number."""
    return as_words(programs.plain(as_bytes(words)))


def where(words):
    return programs.where(as_bytes(words))


def tree(words):
    """The program's numbers, or the refusal's number."""
    return told(programs.tree(as_bytes(words)))


def same(words, others):
    answer = programs.same(as_bytes(words), as_bytes(others))
    assert len(answer) == 1, answer
    return answer[0]


def inputs(words):
    """The inputs as words, or the refusal's number."""
    answer = programs.inputs(as_bytes(words))
    if answer[0] != 0:
        assert len(answer) == 1, answer
        return answer[0]
    names, place = [], 1
    while place < len(answer):
        stop = place + 1 + answer[place]
        assert place + 1 < stop <= len(answer), answer
        names.append("".join(chr(byte) for byte in answer[place + 1:stop]))
        place = stop
    return names


def atoms(words):
    """The positions of the ATOMs, or the refusal's number."""
    return told(programs.atoms(as_bytes(words)))


def flat(words):
    """The plain form without STMTs as words, or the refusal's number."""
    return as_words(programs.flat(as_bytes(words)))


def sizes(words):
    """The four sizes, or the refusal's number."""
    return told(programs.sizes(as_bytes(words)))


# One or more texts for each refusal of reading.
REFUSED = {
    "1" + " " * 2048: -1, "$" * 2049: -1, " " * 4096: -1,
    "$": -2, "1 + _0": -2, "+:folds 1": -2, "a" * 17: -2, "1000000000000000001": -2, "{x} 1 $": -2,
    "": -3, "# no more": -3, "1 +": -3, "a b": -3, "{x}": -3, "+:at 6 1": -3, "F := 1; 1": -3, "a := 1;": -3,
    "(" * 30 + "1" + ")" * 30: -4, "F := {" + "(" * 29 + "1" + ")" * 29 + "}; 1": -4, "{" * 2048: -4,
    "x": -5, "1 + y": -5, "Foo 1": -5, "F := F; 1": -5,
    "a := a; a": -6, "b := a; a := 1; b": -6, "Abs := -; 1": -6, "x := 1; 1": -6, "F := +; F := -; 1": -6,
    "-" * 40 + "1": -7, "-" * 2047 + "1": -7, "1+" * 1023 + "1": -7, "F := +" + ":swap" * 40 + "; 1": -7,
}

PRIMITIVES = ("+ - * < <= = /= Abs And Count Div Drop Find First Flip Grade Iota Join Keep Max Min Mod Not Or Pick "
              "Ravel Reshape Rotate Same Shape Sign Take Turn Where").split()
MODIFIERS = [":fold", ":scan", ":table", ":swap", ":at"]


class Maker:
    """Makes programs that can be read, from a source of random numbers."""

    def __init__(self, source):
        self.random = source
        self.arrays = ["a", "b", "z9Z", "aVeryLongNameOf1"]
        self.functions = []

    def program(self):
        statements = []
        for number in range(self.random.randrange(4)):
            if self.random.random() < 0.5:
                statements.append((f"Given{number}", self.function(4, False)))
                self.functions.append(f"Given{number}")
            else:
                statements.append((f"given{number}", self.expression(4, False)))
                self.arrays.append(f"given{number}")
        return statements, self.expression(7, False)

    def number(self):
        value = self.random.choice([0, 1, 7, 10, 123, 10**18, self.random.randrange(10**18)])
        return -value if self.random.random() < 0.4 else value

    def expression(self, depth, within):
        """An expression of at most this depth; within: whether it stands within a body."""
        choice = self.random.randrange(2 if depth < 2 else 5)
        if choice == 0:
            return ("numbers", *[self.number() for _ in range(self.random.randint(1, 3))])
        if choice == 1:
            return ("name", self.random.choice(self.arrays + ["x", "y"] * within))
        function, right = self.function(depth - 1, within), self.expression(depth - 1, within)
        if choice == 2:
            return ("one", function, right)
        return ("two", self.expression(depth - 1, within), function, right)

    def function(self, depth, within):
        choice = self.random.randrange(2 if depth < 2 else 4)
        if choice == 0 or choice == 1 and not self.functions:
            return ("primitive", self.random.choice(PRIMITIVES))
        if choice == 1:
            return ("given", self.random.choice(self.functions))
        if choice == 2:
            return ("body", self.expression(depth - 1, True))
        modifier = self.random.choice(MODIFIERS)
        rank = self.random.randrange(6) if modifier == ":at" else None
        return ("modified", modifier, rank, self.function(depth - 1, within))


def made_programs(source, count):
    for _ in range(count):
        yield Maker(source).program()


def spelled(number):
    return "_" + str(-number) if number < 0 else str(number)


def form_of(program):
    """The plain form, by its words in the document."""
    statements, expression = program
    return " ".join([f"{name} := {node_form(node)};" for name, node in statements] + [node_form(expression)])


def node_form(node):
    kind, *rest = node
    if kind == "numbers":
        return " ".join(map(spelled, rest))
    if kind == "one":
        return " ".join(map(node_form, rest))
    if kind == "two":
        left = node_form(rest[0])
        return " ".join([f"({left})" if rest[0][0] in ("one", "two") else left, *map(node_form, rest[1:])])
    if kind == "body":
        return "{" + node_form(rest[0]) + "}"
    if kind == "modified":
        modifier, rank, function = rest
        return node_form(function) + modifier + ("" if rank is None else f" {rank}")
    return rest[0]


def loose_of(program, source):
    """A text of the program, with blanks, comments and parentheses spread over it at random."""
    return laid_out(program_tokens(program, source), source)[0]


def program_tokens(program, source):
    """The tokens of the program, with parentheses spread over it at random."""
    statements, expression = program
    tokens = []
    for name, node in statements:
        is_function = name[0].isupper()
        tokens += [name, ":="] + (function_tokens if is_function else expression_tokens)(node, source) + [";"]
    return tokens + expression_tokens(expression, source)


def laid_out(tokens, source):
    """A text of the tokens, with blanks and comments spread over it at random, and the position of each."""
    words, places = gap(source), []
    for token in tokens:
        words += " " * runs_on(words, token)
        places.append(len(words))
        words += token + gap(source)
    return words, places


def gap(source):
    return source.choice(["", "", "", " ", "\n", "\t \r", "#(\n", " # 1 + \n "])


def runs_on(words, token):
    """Whether the token can't stand right behind the words without being drawn into their last token."""
    last = words[-1:]
    return last.isalnum() and token[0].isalnum() or last == "<" and token == "="


def expression_tokens(node, source, left=False):
    kind, *rest = node
    if kind == "numbers":
        tokens = list(map(spelled, rest))
    elif kind == "name":
        tokens = rest
    else:
        first = expression_tokens(rest[0], source, True) if kind == "two" else []
        tokens = first + function_tokens(rest[-2], source) + expression_tokens(rest[-1], source)
        if left:
            tokens = ["("] + tokens + [")"]
    while source.random() < 0.15:
        tokens = ["("] + tokens + [")"]
    return tokens


def function_tokens(node, source):
    kind, *rest = node
    if kind == "body":
        return ["{"] + expression_tokens(rest[0], source) + ["}"]
    if kind == "modified":
        modifier, rank, function = rest
        return function_tokens(function, source) + [modifier] + ([] if rank is None else [str(rank)])
    return rest


def depth_of(node):
    """The depth of a node, by its words in the document."""
    return 1 + max([depth_of(part) for part in node if isinstance(part, tuple)], default=0)


def numbers_of(program):
    """The program as numbers, by promise 3."""
    statements, expression = program
    numbers = [len(statements)]
    for name, node in statements:
        numbers += word_numbers(name) + node_numbers(node)
    return numbers + node_numbers(expression)


def word_numbers(word):
    return [len(word), *word.encode("ascii")]


def node_numbers(node):
    kind, *rest = node
    if kind == "numbers":
        return [0, len(rest)] + rest
    if kind == "name":
        return [1] + word_numbers(rest[0])
    if kind == "one":
        return [2] + node_numbers(rest[0]) + node_numbers(rest[1])
    if kind == "two":
        return [3] + node_numbers(rest[0]) + node_numbers(rest[1]) + node_numbers(rest[2])
    if kind == "primitive":
        return [4] + word_numbers(rest[0])
    if kind == "given":
        return [5] + word_numbers(rest[0])
    if kind == "body":
        return [6] + node_numbers(rest[0])
    modifier, rank, function = rest
    return [7 + MODIFIERS.index(modifier)] + ([] if rank is None else [rank]) + node_numbers(function)
