"""Promises 1, 4 and 5 over many made programs, the same ones each time."""

import random
import unittest

from helper import SHOWN, ask, as_bytes, lists, load, reach, run

SETTINGS = ("x", "y", "zz")
WORDS = ("a", "b", "c", "ab")
PARTS = ("p", "q", "a", "b", "pa", "pb", "ab", "qab", "r", "bb")


class Maker:
    """Makes a right program as a list of tokens."""

    def __init__(self, seed):
        self.random = random.Random(seed)
        self.words = {}
        for name in SETTINGS[:self.random.randint(0, 3)]:
            self.words[name] = self.random.sample(WORDS, self.random.randint(1, 4))
        self.parts = self.random.sample(PARTS, self.random.randint(1, 10))
        # In each fifth program parts call later ones alone, and often, so that runs get too long.
        self.full = seed % 5 == 0
        self.called = self.parts

    def tokens(self):
        found = []
        for name, words in self.words.items():
            found += ["set", name, ":"] + self.listed(words, ",") + [";"]
        for place, part in enumerate(self.parts):
            self.called = self.parts[place + 1:] if self.full else self.parts
            found += ["part", part, "size", str(self.random.randint(1, 99))] + self.body(0)
        entries = self.random.sample(self.parts, self.random.randint(1, min(4, len(self.parts))))
        return found + ["start"] + self.listed(entries, ",") + [";"]

    def listed(self, names, separator):
        found = [names[0]]
        for name in names[1:]:
            found += [separator, name]
        return found

    def body(self, whens):
        found = ["{"]
        lengths = (4, 5, 6) if self.full and whens == 0 else (0, 1, 1, 2, 3)
        for _ in range(self.random.choice(lengths)):
            found += self.statement(whens)
        return found + ["}"]

    def statement(self, whens):
        sort = self.random.choice(("say", "call", "make", "make", "when", "when"))
        if sort == "when" and whens < 3 and self.words:
            name = self.random.choice(list(self.words))
            return ["when", name, "is", self.random.choice(self.words[name])] + self.body(whens + 1)
        if sort == "make":
            names = list(self.words) * 3 + ["p", "q", "a", "b", "r"]
            pieces = [self.random.choice(names) for _ in range(self.random.randint(1, 3))]
            return ["make"] + self.listed(pieces, "+") + [";"]
        if sort == "call" and self.called:
            return ["call", self.random.choice(self.called), ";"]
        return ["say", str(self.random.randint(1, 99)), ";"]


def told_form(tokens):
    """The one form of tokens, written down for itself."""
    rows = [[]]
    depth = 0
    for token in tokens:
        rows[-1].append(token)
        depth += {"{": 1, "}": -1}.get(token, 0)
        if depth == 0 and token in (";", "}"):
            rows.append([])
    return "".join(" ".join(row).replace(" ,", ",") + "\n" for row in rows[:-1])


def programs():
    for seed in range(300):
        yield seed, Maker(seed).tokens()


class Promises(unittest.TestCase):
    def asked(self, text):
        """What load tells of a program, and all its runs and reaches."""
        loaded = ask(load(text))[0]
        self.assertEqual(loaded[0], 1)
        entries, assignments = loaded[3], loaded[4]
        runs = [run(entry, number) for entry in range(entries) for number in range(assignments)]
        told = []
        for first in range(0, len(runs), 39):
            told += ask(load(text), *runs[first:first + 39])[1:]
        reached = ask(load(text), *[reach(entry) for entry in range(entries)])[1:]
        return loaded, told, reached

    def test_5_the_one_form_is_the_same_program(self):
        spaces = random.Random(5)
        for seed, tokens in programs():
            wide = "".join(token + spaces.choice((" ", "\n", "\t", " # @\n")) for token in tokens)
            form = told_form(tokens)
            shown = [len(form)] + as_bytes(form)
            self.assertEqual(ask(load(wide), SHOWN)[1], shown, seed)
            if len(form) <= 4096:
                self.assertEqual(ask(load(form), SHOWN)[1], shown, seed)
                self.assertEqual(self.asked(wide), self.asked(form), seed)

    def test_4_a_run_is_short_and_the_same_each_time(self):
        endings = {0: 0, 1: 0, 2: 0}
        for seed, tokens in programs():
            loaded, runs, _ = self.asked(" ".join(tokens))
            self.assertEqual(self.asked(" ".join(tokens))[1], runs, seed)
            for told in runs:
                said, entered = lists(told[2:])
                endings[told[0]] += 1
                self.assertLessEqual(len(said), told[1])
                self.assertLessEqual(told[1], 100)
                self.assertEqual(len(set(entered)), len(entered))
                self.assertTrue(set(entered) <= set(range(loaded[2])))
                if told[0] == 2:
                    self.assertEqual(told[1], 100)
        self.assertTrue(all(endings.values()), endings)

    def test_1_each_list_is_among_the_next(self):
        unlike = [0, 0]
        for seed, tokens in programs():
            loaded, runs, reached = self.asked(" ".join(tokens))
            for entry, told in enumerate(reached):
                exactly, conditions, branches = lists(told[1:])
                for parts in (exactly, conditions, branches):
                    self.assertEqual(parts, sorted(set(parts)))
                self.assertTrue(set(exactly) <= set(conditions) <= set(branches), seed)
                unlike[0] += exactly != conditions
                unlike[1] += conditions != branches
                entered = set()
                for number in range(loaded[4]):
                    entered |= set(lists(runs[entry * loaded[4] + number][2:])[1])
                self.assertEqual(exactly, sorted(entered), seed)
        self.assertTrue(all(unlike), unlike)


if __name__ == "__main__":
    unittest.main()
