"""All answers of many made programs, beside those of a model that is written in another way."""

import itertools
import random
import unittest

from helper import ALL, ask, keep, load, made, part, programs, reach, run


class Model:
    """A right program, read from its tokens; parts are known by their names."""

    def __init__(self, tokens):
        self.rest = list(tokens)
        self.settings = {}
        self.sizes = {}
        self.bodies = {}
        while self.rest[0] != "start":
            head, name = self.rest.pop(0), self.rest.pop(0)
            if head == "set":
                self.settings[name] = self.until(";")[1::2]
            else:
                self.rest.pop(0)
                self.sizes[name] = int(self.rest.pop(0))
                self.bodies[name] = self.body()
        self.names = list(self.sizes)
        self.entries = self.until(";")[1::2]
        # The last setting's words change slowest.
        rows = itertools.product(*reversed(self.settings.values()))
        self.assignments = [dict(zip(self.settings, reversed(row))) for row in rows]
        self.full = {place: self.done(*place, self.names) for place in self.places()}

    def places(self):
        return itertools.product(range(len(self.entries)), range(len(self.assignments)))

    def until(self, sign):
        found = list(itertools.takewhile(lambda token: token != sign, self.rest))
        del self.rest[:len(found) + 1]
        return found

    def body(self):
        self.rest.pop(0)
        found = []
        while self.rest[0] != "}":
            if self.rest[0] == "when":
                when = [self.rest.pop(0) for _ in range(4)]
                found.append(("when", when[1], when[3], self.body()))
            else:
                kind, *told = self.until(";")
                found.append((kind, told[::2]))
        self.rest.pop(0)
        return found

    def meant(self, pieces, words):
        return "".join(words.get(piece, piece) for piece in pieces)

    def done(self, entry, assignment, kept):
        """How a run ends, how many statements it does, what it says and enters, by a heap of what is to be done."""
        words = self.assignments[assignment]
        heap = [("call", [self.entries[entry]])]
        count, depth, said, entered = -1, 0, [], {}
        while heap:
            what = heap.pop()
            if what[0] == "leave":
                depth -= 1
                continue
            if count == 100:
                return 2, count, said, list(entered)
            count += 1
            if what[0] == "say":
                said.append(int(what[1][0]))
            elif what[0] == "when":
                if words[what[1]] == what[2]:
                    heap += reversed(what[3])
            else:
                name = what[1][0] if what[0] == "call" else self.meant(what[1], words)
                if name in kept:
                    entered[name] = True
                    if depth == 9:
                        return 1, count, said, list(entered)
                    depth += 1
                    heap += [("leave",)] + self.bodies[name][::-1]
                elif what[0] == "call":
                    return 3, count, said, list(entered)
        return 0, count, said, list(entered)

    def numbers(self, names):
        return sorted(self.names.index(name) for name in set(names))

    def steps(self, body, words, whens):
        """Names that a body calls or makes; whens tells which words its whens are held beside, None all."""
        for what in body:
            if what[0] == "when":
                if whens is None or whens[what[1]] == what[2]:
                    yield from self.steps(what[3], words, whens)
            elif what[0] == "call":
                yield what[1][0]
            elif what[0] == "make":
                yield self.meant(what[1], words)

    def closure(self, first, pairs):
        """All that the pairs lead to from a name."""
        found = {first}
        while True:
            more = found | {other for one, other in pairs if one in found and other in self.names}
            if more == found:
                return found
            found = more

    def pairs(self, words, whens):
        return {(name, other) for name, body in self.bodies.items() for other in self.steps(body, words, whens)}

    def ways(self, entry):
        """The three lists of what an entry reaches."""
        exactly, conditions = set(), set()
        every = set()
        for number, words in enumerate(self.assignments):
            exactly |= set(self.full[entry, number][3])
            conditions |= self.closure(self.entries[entry], self.pairs(words, words))
            every |= self.pairs(words, None)
        return [self.numbers(names) for names in (exactly, conditions, self.closure(self.entries[entry], every))]

    def run(self, entry, assignment):
        ending, count, said, entered = self.full[entry, assignment]
        return [ending, count, len(said), *said, len(entered), *[self.names.index(name) for name in entered]]

    def size(self, numbers):
        return sum(self.sizes[self.names[number]] for number in set(numbers))

    def reach(self, entry):
        return [1] + [number for parts in self.ways(entry) for number in [len(parts), *parts]]

    def all(self):
        by_entry = [self.ways(entry) for entry in range(len(self.entries))]
        three = [sorted(set().union(*parts)) for parts in zip(*by_entry)]
        sums = [self.size(parts) for parts in [range(len(self.names))] + three]
        return sums + [number for parts in three for number in [len(parts), *parts]]

    def keep(self, numbers):
        if not set(numbers) <= set(range(len(self.names))):
            return [-4]
        kept = [self.names[number] for number in numbers]
        for place in self.places():
            one, other = self.full[place], self.done(*place, kept)
            if (one[0], one[2]) != (other[0], other[2]):
                return [0, *place, one[0], other[0]]
        return [1, self.size(numbers)]

    def made(self, number):
        found = set()
        for words in self.assignments:
            for what in self.makes(self.bodies[self.names[number]]):
                found.add(self.meant(what[1], words))
        parts = self.numbers(found & set(self.names))
        return [len(found), len(parts), *parts]

    def makes(self, body):
        return [what for what in body if what[0] == "make"] + [
            within for what in body if what[0] == "when" for within in self.makes(what[3])]

    def part(self, number):
        name = self.names[number]
        return [self.sizes[name], len(name), *name.encode()]


class Beside(unittest.TestCase):
    def same(self, seed, text, calls, wanted):
        """Calls and what the model answers, in lines of at most 40 calls."""
        for first in range(0, len(calls), 39):
            told = ask(load(text), *calls[first:first + 39])[1:]
            self.assertEqual(told, wanted[first:first + 39], seed)

    def test_all_answers(self):
        choice = random.Random(1)
        for seed, tokens in programs():
            model = Model(tokens)
            text = " ".join(tokens)
            parts = range(len(model.names))
            entries = range(len(model.entries))
            places = list(model.places())
            lists = [choice.choices(parts, k=choice.randint(0, 15)) for _ in range(6)]
            # One that leaves out one part alone, for each part, and one with what is no part's number.
            lists += [[other for other in parts if other != left_out] for left_out in parts]
            lists += [[0, len(parts)], list(parts)]
            calls = [ALL] + [made(number) for number in parts] + [part(number) for number in parts]
            wanted = [model.all()] + [model.made(number) for number in parts] + [model.part(number) for number in parts]
            self.same(seed, text, calls, wanted)
            self.same(seed, text, [keep(kept) for kept in lists], [model.keep(kept) for kept in lists])
            self.same(seed, text, [run(*place) for place in places], [model.run(*place) for place in places])
            self.same(seed, text, [reach(entry) for entry in entries], [model.reach(entry) for entry in entries])


if __name__ == "__main__":
    unittest.main()
