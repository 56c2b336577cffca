"""Texts and tokens: a list of bytes, taken apart from left to right."""

from keepparts.faults import Fault, NO_TOKEN

LETTERS = "AaBbCcDdEeFfGgHhIiJjKkLlMmNnOoPpQqRrSsTtUuVvWwXxYyZz"
DIGITS = "0123456789"
SIGNS = "+,:;{}"
BLANKS = " \t\n"
REMARK = "#"
OTHER = "?"
WORDS = ("set", "part", "size", "start", "say", "call", "make", "when", "is")
LONGEST_NAME = 16
MOST_DIGITS = 10
GREATEST_NUMBER = 1000000000


class Token:
    """A token: its kind, its text, and the place of its first byte.

    The kind of a word or of a sign is its text; else it is "name", "number" or "end".
    """

    def __init__(self, kind, text, place):
        self.kind = kind
        self.text = text
        self.place = place


def tokens_of(data):
    """All tokens of a list of bytes, the text's end as the last; Fault where none begins."""
    text = as_text(data)
    found = []
    place = past_blanks(text, 0)
    while place < len(text):
        token = token_at(text, place)
        found.append(token)
        place = past_blanks(text, place + len(token.text))
    found.append(Token("end", "", len(text)))
    return found


def as_text(data):
    """One sign for each byte, so that places stay; OTHER for a byte that is in no token."""
    signs = {}
    for sign in LETTERS + DIGITS + SIGNS + BLANKS + REMARK:
        signs[ord(sign)] = sign
    return "".join([signs.get(byte, OTHER) for byte in data])


def past_blanks(text, place):
    """The first place from here on that is in no blank and in no remark."""
    while place < len(text):
        if text[place] == REMARK:
            place = remark_end(text, place)
        elif text[place] in BLANKS:
            place += 1
        else:
            break
    return place


def remark_end(text, place):
    """The place of the byte 10 that ends the remark that begins here, or the text's end."""
    found = text.find("\n", place)
    return len(text) if found < 0 else found


def token_at(text, place):
    """The token that begins here; Fault if none does."""
    sign = text[place]
    if sign in SIGNS:
        return Token(sign, sign, place)
    if sign in DIGITS:
        return number_at(text, place)
    if sign in LETTERS:
        return name_at(text, place)
    raise Fault(NO_TOKEN, place)


def number_at(text, place):
    """The number that begins here; Fault if it is too great or has a needless zero."""
    digits = stretch(text, place, DIGITS)
    if digits[0] == "0" and len(digits) > 1:
        raise Fault(NO_TOKEN, place)
    # Python refuses to read very long numbers, so their length is looked at first.
    if len(digits) > MOST_DIGITS or int(digits) > GREATEST_NUMBER:
        raise Fault(NO_TOKEN, place)
    return Token("number", digits, place)


def name_at(text, place):
    """The name or the word that begins here; Fault if it is too long."""
    name = stretch(text, place, LETTERS + DIGITS)
    if len(name) > LONGEST_NAME:
        raise Fault(NO_TOKEN, place)
    return Token(name if name in WORDS else "name", name, place)


def stretch(text, place, signs):
    """What stands from here on, as far as these signs go."""
    behind = place
    while behind < len(text) and text[behind] in signs:
        behind += 1
    return text[place:behind]
