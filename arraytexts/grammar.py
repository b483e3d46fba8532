"""Reads tokens by the grammar, one by one from the left, into a program's tree."""

from arraytexts.faults import DeepFault, SyntaxFault
from arraytexts.names import PRIMITIVE_WORDS
from arraytexts.tokens import number_of
from arraytexts.trees import Statement, applied_node, body_node, modified_node, numbers_node, word_node

MOST_LEVELS = 30
LARGEST_RANK = 5
GIVEN_KINDS = ("name", "word")
OPERAND_BEGINS = ("number", "name", "(")
FUNCTION_BEGINS = ("primitive", "word", "{")


class Reader:
    """Stands at one token; what is called read_.. reads that, from this token on.

    A PROGRAM is read by read_statements and then read_last; atoms are the positions of the ATOMs read so far.
    """

    def __init__(self, tokens):
        self.tokens = tokens
        self.place = 0
        self.atoms = []

    def kind_here(self):
        return self.tokens[self.place].kind

    def take(self):
        """The token here; steps behind it."""
        token = self.tokens[self.place]
        self.place += 1
        return token

    def take_kind(self, kind):
        if self.kind_here() != kind:
            raise SyntaxFault(self.tokens[self.place].position)
        return self.take()

    def read_statements(self):
        statements = []
        # Behind a name or word there is always one token more: the end at least.
        while self.kind_here() in GIVEN_KINDS and self.tokens[self.place + 1].kind == ":=":
            statements.append(self.read_statement())
        return statements

    def read_last(self):
        """The EXPR with which the program ends."""
        expression = self.read_expression(1)
        self.take_kind("end")
        return expression

    def read_statement(self):
        given = self.take()
        self.take_kind(":=")
        node = self.read_expression(1) if given.kind == "name" else self.read_function(1)
        self.take_kind(";")
        return Statement(given.spelling, node)

    def read_expression(self, level):
        """Goes along the EXPRs behind FUNs by a loop, as there may be as many as tokens."""
        if level > MOST_LEVELS:
            raise DeepFault(self.tokens[self.place].position)
        waiting = []
        while True:
            left = None
            if self.kind_here() in OPERAND_BEGINS:
                left = self.read_operand(level)
                if self.kind_here() not in FUNCTION_BEGINS:
                    return applied_from_right(waiting, left)
            waiting.append((left, self.read_function(level)))

    def read_operand(self, level):
        if self.kind_here() == "number":
            return self.read_numbers()
        if self.kind_here() == "name":
            return word_node("name", self.take().spelling)
        self.take_kind("(")
        expression = self.read_expression(level + 1)
        self.take_kind(")")
        return expression

    def read_numbers(self):
        numbers = []
        while self.kind_here() == "number":
            numbers.append(number_of(self.take()))
        return numbers_node(numbers)

    def read_function(self, level):
        function = self.read_atom(level)
        while self.kind_here() == "modifier":
            modifier = self.take().spelling
            rank = [self.read_rank()] if modifier == ":at" else []
            function = modified_node(modifier, rank, function)
        return function

    def read_atom(self, level):
        # Ahead of what is in a body, as the body stands at its { .
        self.atoms.append(self.tokens[self.place].position)
        if self.kind_here() == "primitive":
            return word_node("primitive", self.take().spelling)
        if self.kind_here() == "word":
            word = self.take().spelling
            return word_node("primitive" if word in PRIMITIVE_WORDS else "given", word)
        self.take_kind("{")
        expression = self.read_expression(level + 1)
        self.take_kind("}")
        return body_node(expression)

    def read_rank(self):
        token = self.take_kind("number")
        rank = number_of(token)
        if rank < 0 or rank > LARGEST_RANK:
            raise SyntaxFault(token.position)
        return rank


def applied_from_right(waiting, last):
    """The expression of pairs (left operand or None, function), each applied to all behind it."""
    right = last
    for pair in reversed(waiting):
        right = applied_node(pair[0], pair[1], right)
    return right
