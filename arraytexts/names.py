"""Tells the names of a program that can be read by the grammar apart, and looks for faults in them."""

from arraytexts.faults import NameFault, TwiceFault

PRIMITIVE_WORDS = (
    "Abs", "And", "Count", "Div", "Drop", "Find", "First", "Flip", "Grade", "Iota", "Join", "Keep", "Max", "Min",
    "Mod", "Not", "Or", "Pick", "Ravel", "Reshape", "Rotate", "Same", "Shape", "Sign", "Take", "Turn", "Where",
)
ARGUMENTS = ("x", "y")


class Names:
    """What the STMTs so far gave, and the inputs mentioned so far in the order of their first mentions."""

    def __init__(self):
        self.given = {}
        self.inputs = {}

    def give(self, token, own):
        """Takes up a STMT that gives the token's name, with the tokens behind its := ."""
        # The fault of a name that is given counts ahead of those in what it stands for: it stands further left.
        self.refuse_twice(token, own)
        self.mention_all(own)
        self.given[token.spelling] = True

    def refuse_twice(self, token, own):
        name = token.spelling
        mentioned = [other.spelling for other in own if other.kind == "name"]
        fixed = name in ARGUMENTS or name in PRIMITIVE_WORDS
        if fixed or name in self.given or name in self.inputs or name in mentioned:
            raise TwiceFault(token.position)

    def mention_all(self, tokens):
        bodies = 0
        for token in tokens:
            if token.kind == "{":
                bodies += 1
            elif token.kind == "}":
                bodies -= 1
            elif token.kind == "name":
                self.mention_name(token, bodies > 0)
            elif token.kind == "word":
                self.mention_word(token)

    def mention_name(self, token, within_body):
        if token.spelling in ARGUMENTS:
            if not within_body:
                raise NameFault(token.position)
        elif token.spelling not in self.given:
            self.inputs[token.spelling] = True

    def mention_word(self, token):
        if token.spelling not in PRIMITIVE_WORDS and token.spelling not in self.given:
            raise NameFault(token.position)


def inputs_of(tokens):
    """The inputs, each once; raises the NameFault or TwiceFault with the least position, if there is one."""
    names = Names()
    begin = 0
    # By the grammar a ; stands at the end of a STMT and nowhere else.
    for place in range(len(tokens)):
        if tokens[place].kind == ";":
            names.give(tokens[begin], tokens[begin + 2:place])
            begin = place + 1
    names.mention_all(tokens[begin:])
    return list(names.inputs)
