"""What the tests share: calls made of texts, answers told apart, and many made programs."""

import random

from keepparts.parts import answers

WORKED = (
    "set os : lin, win ; part main size 2 { call io ; make draw + os ; "
    "when os is win { call fix ; } say 1 ; } part io size 5 { say 2 ; } "
    "part drawlin size 7 { call io ; } part drawwin size 8 { say 3 ; } "
    "part fix size 4 { } part old size 9 { call fix ; } start main ;"
)
TINY = "part a size 1 { } start a ;"
SHOWN = [1]
ALL = [4]
FAR = 10 ** 18


def as_bytes(text):
    """A text, or a list of bytes as it is, as a list of bytes."""
    return list(text.encode("latin-1")) if isinstance(text, str) else list(text)


def load(text):
    data = as_bytes(text)
    return [0, len(data)] + data


def run(entry, assignment):
    return [2, entry, assignment]


def reach(entry):
    return [3, entry]


def keep(parts):
    return [5, len(parts)] + list(parts)


def made(part):
    return [6, part]


def part(number):
    return [7, number]


def ask(*calls):
    """The answers to calls on one new object, each as a list of its own."""
    found = lists(answers([number for call in calls for number in call]))
    assert len(found) == len(calls), found
    return found


def load_answer(text):
    return ask(load(text))[0]


def shown(text):
    """The one form of a right program, as a text."""
    loaded, told = ask(load(text), SHOWN)
    assert loaded[0] == 1, loaded
    assert told[0] == len(told) - 1, told
    return bytes(told[1:]).decode("ascii")


def lists(numbers):
    """Lists that stand one behind another, each with its length ahead."""
    found = []
    place = 0
    while place < len(numbers):
        behind = place + 1 + numbers[place]
        found.append(numbers[place + 1:behind])
        place = behind
    assert place == len(numbers), numbers
    return found


def run_parts(text, entry=0, assignment=0):
    """How a run ends, how many statements are done, what is said, what is entered."""
    told = ask(load(text), run(entry, assignment))[1]
    said, entered = lists(told[2:])
    return told[0], told[1], said, entered


def reach_parts(text, entry=0):
    """The three lists of what an entry reaches."""
    told = ask(load(text), reach(entry))[1]
    assert told[0] == 1, told
    exactly, conditions, branches = lists(told[1:])
    return exactly, conditions, branches


def all_parts(text):
    """The four sums of sizes and the three lists of parts."""
    told = ask(load(text), ALL)[1]
    return told[:4], lists(told[4:])


def keep_answer(text, parts):
    return ask(load(text), keep(parts))[1]


def chain(length, last):
    """Parts p0, p1 .. that call one another in a row; the last one does what is told."""
    parts = [f"part p{number} size 1 {{ call p{number + 1} ; }} " for number in range(length - 1)]
    return "".join(parts) + f"part p{length - 1} size 1 {{ {last} }} "


SETTINGS = ("x", "y", "zz")
WORDS = ("a", "b", "c", "ab")
PARTS = ("p", "q", "a", "b", "pa", "pb", "ab", "qab", "r", "bb")


class Maker:
    """Makes a right program as a list of tokens."""

    def __init__(self, seed):
        self.random = random.Random(seed)
        self.words = {}
        for name in SETTINGS[:self.random.randint(0, 3)]:
            self.words[name] = self.random.sample(WORDS, self.random.randint(1, 4))
        self.parts = self.random.sample(PARTS, self.random.randint(1, 10))
        # In each fifth program parts call later ones alone, and often, so that runs get too long.
        self.full = seed % 5 == 0
        self.called = self.parts

    def tokens(self):
        found = []
        for name, words in self.words.items():
            found += ["set", name, ":"] + self.listed(words, ",") + [";"]
        for place, part in enumerate(self.parts):
            self.called = self.parts[place + 1:] if self.full else self.parts
            found += ["part", part, "size", str(self.random.randint(1, 99))] + self.body(0)
        entries = self.random.sample(self.parts, self.random.randint(1, min(4, len(self.parts))))
        return found + ["start"] + self.listed(entries, ",") + [";"]

    def listed(self, names, separator):
        found = [names[0]]
        for name in names[1:]:
            found += [separator, name]
        return found

    def body(self, whens):
        found = ["{"]
        lengths = (4, 5, 6) if self.full and whens == 0 else (0, 1, 1, 2, 3)
        for _ in range(self.random.choice(lengths)):
            found += self.statement(whens)
        return found + ["}"]

    def statement(self, whens):
        sort = self.random.choice(("say", "call", "make", "make", "when", "when"))
        if sort == "when" and whens < 3 and self.words:
            name = self.random.choice(list(self.words))
            return ["when", name, "is", self.random.choice(self.words[name])] + self.body(whens + 1)
        if sort == "make":
            names = list(self.words) * 3 + ["p", "q", "a", "b", "r"]
            pieces = [self.random.choice(names) for _ in range(self.random.randint(1, 3))]
            return ["make"] + self.listed(pieces, "+") + [";"]
        if sort == "call" and self.called:
            return ["call", self.random.choice(self.called), ";"]
        return ["say", str(self.random.randint(1, 99)), ";"]


def programs():
    for seed in range(300):
        yield seed, Maker(seed).tokens()
