"""The call part: a part's size and its name."""

import unittest

from helper import FAR, WORKED, ask, load, part


class SizeAndName(unittest.TestCase):
    def told(self, text, wanted):
        asked = ask(load(text), *[part(number) for number in range(len(wanted))])[1:]
        self.assertEqual(asked, [[size, len(name)] + list(name.encode()) for size, name in wanted])

    def test_worked_program(self):
        self.told(WORKED, [(2, "main"), (5, "io"), (7, "drawlin"), (8, "drawwin"), (4, "fix"), (9, "old")])

    def test_as_numbers(self):
        self.assertEqual(ask(load(WORKED), part(1))[1], [5, 2, 105, 111])

    def test_shortest_and_longest(self):
        self.told("part Z size 99 { } part aB3456789012345Z size 1 { } start Z ;", [(99, "Z"), (1, "aB3456789012345Z")])

    def test_ten_parts(self):
        parts = [(number + 1, f"p{number}") for number in range(10)]
        text = "".join(f"part {name} size {size} {{ }} " for size, name in parts)
        self.told(text + "start p3 ;", parts)
        self.assertEqual(ask(load(text + "start p3 ;"), part(10))[1], [-4])

    def test_reached_or_not_makes_no_difference(self):
        text = "part a size 3 { say 7 ; } part b size 5 { } part c size 8 { call a ; } start b ;"
        self.told(text, [(3, "a"), (5, "b"), (8, "c")])


class Refused(unittest.TestCase):
    def test_in_their_order(self):
        self.assertEqual(ask(part(0), part(-1), part(FAR)), [[-1]] * 3)
        for wrong in (6, 7, 10, -1, -6, FAR, -FAR):
            self.assertEqual(ask(load(WORKED), part(wrong))[1], [-4])


if __name__ == "__main__":
    unittest.main()
