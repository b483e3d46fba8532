"""The refusals, one error class each."""


class Refused(Exception):
    """A call refuses: the refusal's number without its sign, and the position of the fault in the text."""

    def __init__(self, number, position):
        self.number = number
        self.position = position


class LongFault(Refused):
    """The text has too many bytes."""

    def __init__(self):
        Refused.__init__(self, 1, 0)


class TokenFault(Refused):
    """No token fits here."""

    def __init__(self, position):
        Refused.__init__(self, 2, position)


class SyntaxFault(Refused):
    """What was read so far can't go on with this token."""

    def __init__(self, position):
        Refused.__init__(self, 3, position)


class DeepFault(Refused):
    """An EXPR would begin here at too high a level."""

    def __init__(self, position):
        Refused.__init__(self, 4, position)


class NameFault(Refused):
    """The name that is mentioned here stands for nothing."""

    def __init__(self, position):
        Refused.__init__(self, 5, position)


class TwiceFault(Refused):
    """The name that is given here has a meaning already."""

    def __init__(self, position):
        Refused.__init__(self, 6, position)


class DepthFault(Refused):
    """The program's tree is too deep."""

    def __init__(self):
        Refused.__init__(self, 7, 0)


class LongFormFault(Refused):
    """The plain form has too many bytes."""

    def __init__(self):
        Refused.__init__(self, 8, 0)


class FlatFault(Refused):
    """The program without STMTs is too deep, or its plain form has too many levels."""

    def __init__(self):
        Refused.__init__(self, 9, 0)
