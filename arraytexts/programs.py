"""The calls: each answers a list of whole numbers from its texts alone."""

from arraytexts.faults import Refused
from arraytexts.printing import printed_program
from arraytexts.reading import read

LONGEST_PLAIN_FORM = 2048
PLAIN_FORM_LONG = -8


def plain(text):
    """0 and the bytes of the program's plain form, or a refusal."""
    try:
        program = read(text)
    except Refused as refusal:
        return [-refusal.number]
    form = printed_program(program)
    if len(form) > LONGEST_PLAIN_FORM:
        return [PLAIN_FORM_LONG]
    return [0] + [ord(sign) for sign in form]


def where(text):
    """0 and 0 if the text can be read, else the refusal's number without its sign and the fault's position."""
    try:
        read(text)
    except Refused as refusal:
        return [refusal.number, refusal.position]
    return [0, 0]
