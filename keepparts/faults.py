"""The faults that a text can have, by the numbers that the document gives them."""

TEXT_TOO_LONG = 1
NO_TOKEN = 2
NOT_ALLOWED = 3
TOO_MANY = 4
NAME_TOLD_BEFORE = 5
ENTRY_TOLD_BEFORE = 6
OUT_OF_RANGE = 7
UNKNOWN_NAME = 8
UNKNOWN_CALL = 9


class Fault(Exception):
    """The fault that is told of a text: its code and its place."""

    def __init__(self, code, place):
        self.code = code
        self.place = place
