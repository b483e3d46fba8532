"""Tells programs, and what is in them, as numbers."""

from arraytexts.printing import printed_program

KIND_NUMBERS = {"numbers": 0, "name": 1, "one": 2, "two": 3, "primitive": 4, "given": 5, "body": 6}
MODIFIER_NUMBERS = {":fold": 7, ":scan": 8, ":table": 9, ":swap": 10, ":at": 11}
WORD_KINDS = ("name", "primitive", "given")


def told_program(program):
    told = [len(program.statements)]
    for statement in program.statements:
        told.extend(told_word(statement.name))
        told.extend(told_node(statement.node))
    told.extend(told_node(program.expression))
    return told


def told_inputs(program):
    told = []
    for name in program.inputs:
        told.extend(told_word(name))
    return told


def told_atoms(program):
    return list(program.atoms)


def told_sizes(program):
    return [len(program.statements), len(program.atoms), program.depth, len(printed_program(program))]


def told_node(node):
    """An expression or function; its depth is at most 40, so it may be gone down by calls."""
    told = told_head(node)
    for part in node.parts:
        told.extend(told_node(part))
    return told


def told_head(node):
    """What is told of a node ahead of its parts."""
    if node.kind == "modified":
        return [MODIFIER_NUMBERS[node.word]] + node.numbers
    head = [KIND_NUMBERS[node.kind]]
    if node.kind == "numbers":
        return head + [len(node.numbers)] + node.numbers
    if node.kind in WORD_KINDS:
        return head + told_word(node.word)
    return head


def told_word(word):
    return [len(word)] + [ord(sign) for sign in word]
