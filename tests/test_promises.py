"""Promises 1 to 5 over many made programs, the same ones each time."""

import random
import unittest

from helper import ALL, SHOWN, ask, as_bytes, keep, lists, load, programs, reach, run


def told_form(tokens):
    """The one form of tokens, written down for itself."""
    rows = [[]]
    depth = 0
    for token in tokens:
        rows[-1].append(token)
        depth += {"{": 1, "}": -1}.get(token, 0)
        if depth == 0 and token in (";", "}"):
            rows.append([])
    return "".join(" ".join(row).replace(" ,", ",") + "\n" for row in rows[:-1])


class Promises(unittest.TestCase):
    def asked(self, text):
        """What load tells of a program, and all its runs and reaches."""
        loaded = ask(load(text))[0]
        self.assertEqual(loaded[0], 1)
        entries, assignments = loaded[3], loaded[4]
        runs = [run(entry, number) for entry in range(entries) for number in range(assignments)]
        told = []
        for first in range(0, len(runs), 39):
            told += ask(load(text), *runs[first:first + 39])[1:]
        reached = ask(load(text), *[reach(entry) for entry in range(entries)])[1:]
        return loaded, told, reached

    def test_5_the_one_form_is_the_same_program(self):
        spaces = random.Random(5)
        for seed, tokens in programs():
            wide = "".join(token + spaces.choice((" ", "\n", "\t", " # @\n")) for token in tokens)
            form = told_form(tokens)
            shown = [len(form)] + as_bytes(form)
            self.assertEqual(ask(load(wide), SHOWN)[1], shown, seed)
            if len(form) <= 4096:
                self.assertEqual(ask(load(form), SHOWN)[1], shown, seed)
                self.assertEqual(self.asked(wide), self.asked(form), seed)

    def test_4_a_run_is_short_and_the_same_each_time(self):
        endings = {0: 0, 1: 0, 2: 0}
        for seed, tokens in programs():
            loaded, runs, _ = self.asked(" ".join(tokens))
            self.assertEqual(self.asked(" ".join(tokens))[1], runs, seed)
            for told in runs:
                said, entered = lists(told[2:])
                endings[told[0]] += 1
                self.assertLessEqual(len(said), told[1])
                self.assertLessEqual(told[1], 100)
                self.assertEqual(len(set(entered)), len(entered))
                self.assertTrue(set(entered) <= set(range(loaded[2])))
                if told[0] == 2:
                    self.assertEqual(told[1], 100)
        self.assertTrue(all(endings.values()), endings)

    def test_1_each_list_is_among_the_next(self):
        unlike = [0, 0]
        for seed, tokens in programs():
            loaded, runs, reached = self.asked(" ".join(tokens))
            for entry, told in enumerate(reached):
                exactly, conditions, branches = lists(told[1:])
                for parts in (exactly, conditions, branches):
                    self.assertEqual(parts, sorted(set(parts)))
                self.assertTrue(set(exactly) <= set(conditions) <= set(branches), seed)
                unlike[0] += exactly != conditions
                unlike[1] += conditions != branches
                entered = set()
                for number in range(loaded[4]):
                    entered |= set(lists(runs[entry * loaded[4] + number][2:])[1])
                self.assertEqual(exactly, sorted(entered), seed)
        self.assertTrue(all(unlike), unlike)

    def test_1_of_some_entry_too(self):
        for seed, tokens in programs():
            text = " ".join(tokens)
            told = ask(load(text), ALL)[1]
            exactly, conditions, branches = [set(parts) for parts in lists(told[4:])]
            self.assertTrue(exactly <= conditions <= branches, seed)
            self.assertGreaterEqual(told[0], told[3])
            self.assertGreaterEqual(told[3], told[2])
            self.assertGreaterEqual(told[2], told[1])
            reached = [lists(answer[1:]) for answer in self.asked(text)[2]]
            for way, parts in enumerate((exactly, conditions, branches)):
                self.assertEqual(parts, {part for lists_told in reached for part in lists_told[way]}, seed)

    def test_2_all_reached_exactly_is_enough_and_more_is_too(self):
        choice = random.Random(2)
        for seed, tokens in programs():
            text = " ".join(tokens)
            loaded, told = ask(load(text), ALL)
            enough = lists(told[4:])[0]
            others = [number for number in range(loaded[2]) if number not in enough]
            more = [enough + others[:length] for length in range(len(others) + 1)]
            more += [choice.sample(parts, len(parts)) + enough for parts in more]
            self.assertEqual([answer[0] for answer in ask(load(text), *map(keep, more))[1:]], [1] * len(more), seed)
            self.assertEqual(ask(load(text), keep(enough))[1], [1, told[1]], seed)

    def test_3_not_enough_is_shown_by_a_run(self):
        choice = random.Random(3)
        answered = {0: 0, 1: 0}
        for seed, tokens in programs():
            text = " ".join(tokens)
            loaded = ask(load(text))[0]
            kept = [choice.sample(range(loaded[2]), choice.randint(0, loaded[2])) for _ in range(20)]
            for parts, told in zip(kept, ask(load(text), *map(keep, kept))[1:]):
                answered[told[0]] += 1
                if told[0] == 0:
                    full = ask(load(text), run(told[1], told[2]))[1]
                    self.assertEqual(full[0], told[3], seed)
                    # What is left out of this run is entered in it, so it is not like the one that is told.
                    self.assertFalse(set(lists(full[2:])[1]) <= set(parts), seed)
        self.assertTrue(all(answered.values()), answered)


if __name__ == "__main__":
    unittest.main()
