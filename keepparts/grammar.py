"""From tokens to a program, with the first fault if it is not right."""

from keepparts.faults import (
    ENTRY_TOLD_BEFORE, NAME_TOLD_BEFORE, NOT_ALLOWED, OUT_OF_RANGE, TEXT_TOO_LONG,
    TOO_MANY, UNKNOWN_CALL, UNKNOWN_NAME, Fault,
)
from keepparts.program import Call, Make, Part, Program, Say, Setting, When
from keepparts.tokens import tokens_of

LONGEST_TEXT = 4096
MOST_SETTINGS = 3
MOST_WORDS = 4
MOST_PARTS = 10
MOST_ENTRIES = 4
MOST_PIECES = 3
MOST_WHENS = 3
GREATEST_AMOUNT = 99


def read_program(data):
    """The program that a list of bytes tells; Fault at what is wrong first."""
    if len(data) > LONGEST_TEXT:
        raise Fault(TEXT_TOO_LONG, LONGEST_TEXT)
    return Parser(tokens_of(data)).read_all()


class Parser:
    """Reads tokens once, from left to right, and looks at each before it goes on.

    So of two faults that stand at different tokens the left one is found first.
    """

    def __init__(self, tokens):
        self.tokens = tokens
        self.position = 0
        self.words_by_setting = {}
        self.part_numbers = {}
        self.called = []

    def read_all(self):
        """The whole program, to the text's end."""
        settings = []
        while self.ahead() == "set":
            settings.append(self.read_setting())
        parts = [self.read_part()]
        while self.ahead() == "part":
            parts.append(self.read_part())
        entries = self.read_entries()
        self.take("end")
        self.check_called()
        return Program(settings, parts, entries)

    def ahead(self):
        """The kind of the token that comes now."""
        return self.tokens[self.position].kind

    def take(self, kind):
        """Goes past the token that comes now and gives it back; Fault if it is of another kind."""
        token = self.tokens[self.position]
        if token.kind != kind:
            raise Fault(NOT_ALLOWED, token.place)
        self.position += 1
        return token

    def take_listed(self, separator, told, most):
        """The name that follows those told in a list, or None if the list goes no further."""
        if told:
            if self.ahead() != separator:
                return None
            self.take(separator)
        token = self.take("name")
        if len(told) == most:
            raise Fault(TOO_MANY, token.place)
        return token

    def take_amount(self):
        """The value of a size, or of what is said."""
        token = self.take("number")
        amount = int(token.text)
        if not 1 <= amount <= GREATEST_AMOUNT:
            raise Fault(OUT_OF_RANGE, token.place)
        return amount

    def read_setting(self):
        """set X : V, V, .. ;"""
        first = self.take("set")
        if len(self.words_by_setting) == MOST_SETTINGS:
            raise Fault(TOO_MANY, first.place)
        name = self.take("name")
        if name.text in self.words_by_setting:
            raise Fault(NAME_TOLD_BEFORE, name.place)
        self.take(":")
        words = self.read_words()
        self.take(";")
        self.words_by_setting[name.text] = words
        return Setting(name.text, words)

    def read_words(self):
        """The words of a setting."""
        words = []
        token = self.take_listed(",", words, MOST_WORDS)
        while token is not None:
            if token.text in words:
                raise Fault(NAME_TOLD_BEFORE, token.place)
            words.append(token.text)
            token = self.take_listed(",", words, MOST_WORDS)
        return words

    def read_part(self):
        """part N size K { S S .. }"""
        first = self.take("part")
        if len(self.part_numbers) == MOST_PARTS:
            raise Fault(TOO_MANY, first.place)
        name = self.take("name")
        if name.text in self.words_by_setting or name.text in self.part_numbers:
            raise Fault(NAME_TOLD_BEFORE, name.place)
        self.part_numbers[name.text] = len(self.part_numbers)
        self.take("size")
        size = self.take_amount()
        return Part(name.text, size, self.read_body(0))

    def read_body(self, whens):
        """{ S S .. } that stands in so many whens."""
        self.take("{")
        body = []
        while self.ahead() != "}":
            body.append(self.read_statement(whens))
        self.take("}")
        return body

    def read_statement(self, whens):
        """The statement that comes now, in so many whens."""
        kind = self.ahead()
        if kind == "say":
            return self.read_say()
        if kind == "call":
            return self.read_call()
        if kind == "make":
            return self.read_make()
        return self.read_when(whens)

    def read_say(self):
        """say K ;"""
        self.take("say")
        amount = self.take_amount()
        self.take(";")
        return Say(amount)

    def read_call(self):
        """call M ;"""
        self.take("call")
        name = self.take("name")
        self.take(";")
        # M may be told later: if it is a part can be seen only at the end.
        self.called.append(name)
        return Call(name.text)

    def read_make(self):
        """make P + P + .. ;"""
        self.take("make")
        pieces = []
        token = self.take_listed("+", pieces, MOST_PIECES)
        while token is not None:
            pieces.append(token.text)
            token = self.take_listed("+", pieces, MOST_PIECES)
        self.take(";")
        return Make(pieces)

    def read_when(self, whens):
        """when X is V { S S .. }"""
        first = self.take("when")
        if whens == MOST_WHENS:
            raise Fault(TOO_MANY, first.place)
        setting = self.take("name")
        if setting.text not in self.words_by_setting:
            raise Fault(UNKNOWN_NAME, setting.place)
        self.take("is")
        word = self.take("name")
        if word.text not in self.words_by_setting[setting.text]:
            raise Fault(UNKNOWN_NAME, word.place)
        return When(setting.text, word.text, self.read_body(whens + 1))

    def read_entries(self):
        """start N, N, .. ;"""
        self.take("start")
        entries = []
        token = self.take_listed(",", entries, MOST_ENTRIES)
        while token is not None:
            number = self.part_numbers.get(token.text)
            if number in entries:
                raise Fault(ENTRY_TOLD_BEFORE, token.place)
            if number is None:
                raise Fault(UNKNOWN_NAME, token.place)
            entries.append(number)
            token = self.take_listed(",", entries, MOST_ENTRIES)
        self.take(";")
        return entries

    def check_called(self):
        """Fault at the first name behind call that is no part's."""
        for token in self.called:
            if token.text not in self.part_numbers:
                raise Fault(UNKNOWN_CALL, token.place)
