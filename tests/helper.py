"""What the tests share: the calls, with words in the place of lists of bytes."""

from arraytexts import programs


def as_bytes(words):
    return [ord(sign) for sign in words]


def plain(words):
    """The plain form as words, or the refusal's number."""
    answer = programs.plain(as_bytes(words))
    if answer[0] == 0:
        return "".join(chr(byte) for byte in answer[1:])
    assert len(answer) == 1, answer
    return answer[0]


def where(words):
    return programs.where(as_bytes(words))
