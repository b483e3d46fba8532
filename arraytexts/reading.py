"""Reads a text whole, with its refusals in their order."""

from arraytexts.faults import DepthFault, LongFault
from arraytexts.grammar import Reader
from arraytexts.names import inputs_of
from arraytexts.tokens import cut
from arraytexts.trees import Program

LONGEST_TEXT = 2048
GREATEST_DEPTH = 40


def read(text):
    """The program of a list of bytes; raises the first of the refusals that holds."""
    if len(text) > LONGEST_TEXT:
        raise LongFault()
    tokens = cut(text)
    reader = Reader(tokens)
    statements = reader.read_statements()
    expression = reader.read_last()
    program = Program(statements, expression, reader.atoms, inputs_of(tokens))
    if program.depth > GREATEST_DEPTH:
        raise DepthFault()
    return program
