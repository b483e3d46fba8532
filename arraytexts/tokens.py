"""Cuts a text into tokens, from its beginning to its end."""

from arraytexts.faults import TokenFault

# The bytes 40 to 125 in their order: every byte that a token can hold is among them.
FIRST_SIGN = 40
SIGNS = "()*+,-./0123456789:;<=>?@ABCDEFGHIJKLMNOPQRSTUVWXYZ[\\]^_`abcdefghijklmnopqrstuvwxyz{|}"
SIGNS_BETWEEN_TOKENS = {9: " ", 10: "\n", 13: " ", 32: " ", 35: "#"}
# Begins no token, so it may stand for all the bytes that begin none.
NO_SIGN = "?"

BLANKS = (" ", "\n")
SIGNS_OF_TWO = (":=", "<=", "/=")
SIGNS_OF_ONE = ("(", ")", "{", "}", ";", "+", "-", "*", "<", "=")
PRIMITIVE_SIGNS = ("+", "-", "*", "<", "<=", "=", "/=")
MODIFIERS = (":fold", ":scan", ":table", ":swap", ":at")

MOST_DIGITS = 19
LARGEST_NUMBER = 1000000000000000000
LONGEST_NAME = 16


class Token:
    """A kind, the position of the first byte, and the token as it is spelled.

    The kinds: "number", "name" (of an array), "word" (of a function), "modifier", "primitive"
    (one of the seven signs), "end"; each other sign is a kind of its own.
    """

    def __init__(self, kind, position, spelling):
        self.kind = kind
        self.position = position
        self.spelling = spelling


def cut(text):
    """The tokens of a list of bytes, with the end as the last one; raises TokenFault."""
    source = "".join([sign_of(byte) for byte in text])
    tokens = []
    place = 0
    while place < len(source):
        if source[place] in BLANKS:
            place += 1
        elif source[place] == "#":
            place = behind_comment(source, place)
        else:
            token = token_at(source, place)
            tokens.append(token)
            place += len(token.spelling)
    tokens.append(Token("end", len(source), ""))
    return tokens


def sign_of(byte):
    if FIRST_SIGN <= byte < FIRST_SIGN + len(SIGNS):
        return SIGNS[byte - FIRST_SIGN]
    return SIGNS_BETWEEN_TOKENS.get(byte, NO_SIGN)


def behind_comment(source, place):
    row_end = source.find("\n", place)
    return len(source) if row_end == -1 else row_end + 1


def token_at(source, place):
    first = source[place]
    second = source[place + 1:place + 2]
    if first.isdigit() or (first == "_" and second.isdigit()):
        return number_at(source, place)
    if first.islower():
        return name_at(source, place, "name")
    if first.isupper():
        return name_at(source, place, "word")
    if first + second in SIGNS_OF_TWO:
        return sign_token(first + second, place)
    if first == ":" and second.islower():
        return modifier_at(source, place)
    if first in SIGNS_OF_ONE:
        return sign_token(first, place)
    raise TokenFault(place)


def number_at(source, place):
    below_zero = source[place] == "_"
    begin = place + 1 if below_zero else place
    stop = begin
    while stop < len(source) and source[stop].isdigit():
        stop += 1
    digits = source[begin:stop]
    if len(digits) > MOST_DIGITS or int(digits) > LARGEST_NUMBER:
        raise TokenFault(place)
    if digits[0] == "0" and (len(digits) > 1 or below_zero):
        raise TokenFault(place)
    return Token("number", place, source[place:stop])


def name_at(source, place, kind):
    stop = run_stop(source, place)
    if stop - place > LONGEST_NAME:
        raise TokenFault(place)
    return Token(kind, place, source[place:stop])


def modifier_at(source, place):
    spelling = source[place:run_stop(source, place + 1)]
    if spelling not in MODIFIERS:
        raise TokenFault(place)
    return Token("modifier", place, spelling)


def run_stop(source, place):
    """The place behind the letters and digits that stand from this place on."""
    stop = place
    while stop < len(source) and source[stop].isalnum():
        stop += 1
    return stop


def sign_token(sign, place):
    kind = "primitive" if sign in PRIMITIVE_SIGNS else sign
    return Token(kind, place, sign)


def number_of(token):
    """What a number's token is worth."""
    if token.spelling[0] == "_":
        return -int(token.spelling[1:])
    return int(token.spelling)
