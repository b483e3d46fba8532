"""Prints programs in the plain form."""

from arraytexts.faults import LongFormFault
from arraytexts.trees import is_applied

LONGEST_FORM = 2048


def plain_bytes(program):
    """The bytes of the program's plain form; raises LongFormFault."""
    return form_bytes(printed_program(program))


def form_bytes(form):
    if len(form) > LONGEST_FORM:
        raise LongFormFault()
    return [ord(sign) for sign in form]


def printed_program(program):
    pieces = [printed_statement(statement) for statement in program.statements]
    pieces.append(printed(program.expression))
    return " ".join(pieces)


def printed_statement(statement):
    return statement.name + " := " + printed(statement.node) + ";"


def printed(node):
    """An expression or function; its depth is at most 40, so it may be gone down by calls."""
    if node.kind == "numbers":
        return printed_numbers(node.numbers)
    if node.kind == "one":
        return printed(node.parts[0]) + " " + printed(node.parts[1])
    if node.kind == "two":
        return printed_left(node.parts[0]) + " " + printed(node.parts[1]) + " " + printed(node.parts[2])
    if node.kind == "body":
        return "{" + printed(node.parts[0]) + "}"
    if node.kind == "modified":
        return printed_modified(node)
    return node.word


def printed_left(node):
    if is_applied(node):
        return "(" + printed(node) + ")"
    return printed(node)


def printed_modified(node):
    modified = printed(node.parts[0]) + node.word
    if node.word == ":at":
        return modified + " " + printed_numbers(node.numbers)
    return modified


def printed_numbers(numbers):
    return " ".join([printed_number(number) for number in numbers])


def printed_number(number):
    return "_" + str(-number) if number < 0 else str(number)
