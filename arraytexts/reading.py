"""Reads a text whole, with its refusals in their order."""

from arraytexts.faults import DepthFault, LongFault
from arraytexts.grammar import Reader
from arraytexts.names import refuse_names
from arraytexts.tokens import cut

LONGEST_TEXT = 2048
GREATEST_DEPTH = 40


def read(text):
    """The program of a list of bytes; raises the first of the refusals that holds."""
    if len(text) > LONGEST_TEXT:
        raise LongFault()
    tokens = cut(text)
    program = Reader(tokens).read_program()
    refuse_names(tokens)
    if program.depth > GREATEST_DEPTH:
        raise DepthFault()
    return program
