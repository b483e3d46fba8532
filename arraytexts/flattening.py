"""Writes what the STMTs of a program gave out, in the place of every mention."""

from arraytexts.faults import FlatFault, LongFormFault
from arraytexts.grammar import MOST_LEVELS
from arraytexts.printing import LONGEST_FORM, form_bytes, printed
from arraytexts.reading import GREATEST_DEPTH
from arraytexts.trees import Node


def flat_bytes(program):
    """The bytes of the plain form of the program without STMTs; raises FlatFault or LongFormFault."""
    node = written_out(program)
    if node.depth > GREATEST_DEPTH or node.levels > MOST_LEVELS:
        raise FlatFault()
    # Each node prints one byte of its own at least, and there may be too many of them for any text to be made.
    if node.nodes > LONGEST_FORM:
        raise LongFormFault()
    return form_bytes(printed(node))


def written_out(program):
    """The expression of the program without STMTs; what is mentioned more than once stands in it as one object."""
    given = {}
    for statement in program.statements:
        given[statement.name] = replaced(statement.node, given)
    return replaced(program.expression, given)


def replaced(node, given):
    """The node with what was given, written out before, in the place of its names.

    The node is of a program that was read: its depth is at most 40, so it may be gone down by calls.
    """
    # No node but a mention has a word that can be given: x, y and the primitives' can't, and modifiers begin with : .
    if node.word in given:
        return given[node.word]
    if len(node.parts) == 0:
        return node
    return Node(node.kind, node.word, node.numbers, [replaced(part, given) for part in node.parts])
