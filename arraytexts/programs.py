"""The calls: each answers a list of whole numbers from its texts alone."""

from arraytexts.faults import Refused
from arraytexts.printing import printed_program
from arraytexts.reading import read
from arraytexts.telling import told_program

LONGEST_PLAIN_FORM = 2048
PLAIN_FORM_LONG = -8
# How much less than a refusal is answered where it's the second text that is refused.
LESS_FOR_SECOND = 10


def plain(text):
    """0 and the bytes of the program's plain form, or a refusal."""
    try:
        program = read(text)
    except Refused as refusal:
        return [-refusal.number]
    form = printed_program(program)
    if len(form) > LONGEST_PLAIN_FORM:
        return [PLAIN_FORM_LONG]
    return [0] + [ord(sign) for sign in form]


def where(text):
    """0 and 0 if the text can be read, else the refusal's number without its sign and the fault's position."""
    try:
        read(text)
    except Refused as refusal:
        return [refusal.number, refusal.position]
    return [0, 0]


def tree(text):
    """0 and the program's tree as numbers, or a refusal."""
    try:
        program = read(text)
    except Refused as refusal:
        return [-refusal.number]
    return [0] + told_program(program)


def same(a, b):
    """1 if the trees of the two programs are the same, 0 if not, or the refusal of a, or else that of b."""
    first = tree(a)
    if first[0] != 0:
        return first
    second = tree(b)
    if second[0] != 0:
        return [second[0] - LESS_FOR_SECOND]
    # Every count stands ahead of what it counts, so different trees are never told by the same numbers.
    return [1 if first == second else 0]
