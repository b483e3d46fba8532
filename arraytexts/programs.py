"""The calls: each answers a list of whole numbers from its texts alone."""

from arraytexts.faults import Refused
from arraytexts.flattening import flat_bytes
from arraytexts.printing import plain_bytes
from arraytexts.reading import read
from arraytexts.telling import told_atoms, told_inputs, told_program, told_sizes

# How much less than a refusal is answered where it's the second text that is refused.
LESS_FOR_SECOND = 10


def plain(text):
    """0 and the bytes of the program's plain form, or a refusal."""
    return answered(text, plain_bytes)


def where(text):
    """0 and 0 if the text can be read, else the refusal's number without its sign and the fault's position."""
    try:
        read(text)
    except Refused as refusal:
        return [refusal.number, refusal.position]
    return [0, 0]


def tree(text):
    """0 and the program's tree as numbers, or a refusal."""
    return answered(text, told_program)


def same(a, b):
    """1 if the trees of the two programs are the same, 0 if not, or the refusal of a, or else that of b."""
    first = tree(a)
    if first[0] != 0:
        return first
    second = tree(b)
    if second[0] != 0:
        return [second[0] - LESS_FOR_SECOND]
    # Every count stands ahead of what it counts, so different trees are never told by the same numbers.
    return [1 if first == second else 0]


def inputs(text):
    """0 and the inputs in the order of their first mentions, each as its length and its bytes, or a refusal."""
    return answered(text, told_inputs)


def atoms(text):
    """0 and the position of each ATOM in the order of the text, or a refusal."""
    return answered(text, told_atoms)


def flat(text):
    """0 and the bytes of the plain form of the program without STMTs, or a refusal."""
    return answered(text, flat_bytes)


def sizes(text):
    """0, how many STMTs and ATOMs there are, the depth, and how many bytes the plain form has, or a refusal."""
    return answered(text, told_sizes)


def answered(text, tell):
    """0 and the numbers that tell, a function, gives for the text's program; or the refusal's number alone."""
    try:
        numbers = tell(read(text))
    except Refused as refusal:
        return [-refusal.number]
    return [0] + numbers
