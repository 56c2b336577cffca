"""The longest and deepest that may be handed in is answered, and soon."""

import time
import unittest

from helper import ALL, SHOWN, ask, keep, load, made, part, reach, run

SOON = 20
SETTINGS = "set x:a,b,c,d;set y:a,b,c,d;set z:a,b,c,d;"


def fill(head, statement, tail, most=4096):
    """A text of at most so many bytes with a statement as often as it goes."""
    return head + statement * ((most - len(head) - len(tail)) // len(statement)) + tail


# Both have 64 assignments, 10 parts and 4 entries; each run is alike without q, and what is made, left out.
FIVE = "part aaa size 3{}part bbb size 4{}part cda size 5{}part dcb size 6{}part zz size 7{}start p0,p1,p2,p3;"
TOO_LONG = SETTINGS + "".join(
    f"part p{number} size 1{{" + "make q;" * 101 + "}" for number in range(4)
) + "part q size 2{make x+y+z;}" + FIVE
TOO_DEEP = SETTINGS + "".join(
    f"part p{number} size 1{{" + "say 1;" * 5 + "make x+y+z;" * 5 + f"call p{(number + 1) % 4};}}"
    for number in range(4)
) + "part q size 2{make x+y+z;}" + FIVE


class Soon(unittest.TestCase):
    def soon(self, *calls):
        self.assertLessEqual(len(calls), 40)
        self.assertLessEqual(sum(len(call) for call in calls), 17000)
        begun = time.perf_counter()
        told = ask(*calls)
        self.assertLess(time.perf_counter() - begun, SOON)
        return told


class Limits(Soon):
    def test_text_of_8192_bytes(self):
        for text in ("a" * 8192, "1" * 8192, "#" * 8192, "{" * 8192, " " * 8192, [255] * 8192):
            self.assertEqual(self.soon(load(text), load(text)), [[0, 1, 4096]] * 2)

    def test_text_of_4096_bytes_of_one_sort(self):
        self.assertEqual(self.soon(load("a" * 4096)), [[0, 2, 0]])
        self.assertEqual(self.soon(load("1" * 4096)), [[0, 2, 0]])
        self.assertEqual(self.soon(load("#\n" * 2048)), [[0, 3, 4096]])
        self.assertEqual(self.soon(load("{" * 4096)), [[0, 3, 0]])
        deep = fill(SETTINGS + "part p size 1{", "when x is a{", "")
        self.assertEqual(self.soon(load(deep)), [[0, 4, len(SETTINGS) + 14 + 3 * 12]])

    def test_40_calls_and_17000_numbers(self):
        text = fill(SETTINGS + "part p size 1{", "make x+y+z;", "}start p;")
        others = [load(text)] * 4 + [run(0, number) for number in range(35)]
        left = 17000 - sum(len(call) for call in others) - 2
        told = self.soon(*others, load("#" * left))
        self.assertEqual(told[:4], [[1, 3, 1, 1, 64]] * 4)
        self.assertEqual(told[4:39], [[2, 100, 0, 1, 0]] * 35)
        self.assertEqual(told[39], [0, 3, left])

    def test_reach_of_the_longest_program(self):
        names = ("a", "b", "c", "d", "ab", "bc", "cd", "da", "dd")
        parts = "".join(f"part {name} size 1{{make x+y;}}" for name in names)
        text = fill(SETTINGS + parts + "part p size 1{", "make x;", "}start p,a,b,dd;")
        told = self.soon(load(text), *[reach(number % 4) for number in range(39)])
        self.assertEqual(told[0], [1, 3, 10, 4, 64])
        self.assertEqual(told[1], [1] + [10, *range(10)] * 3)
        self.assertEqual(told[2], [1] + [6, 0, 4, 5, 6, 7, 8] * 3)
        self.assertEqual(told[3], [1] + [6, 1, 4, 5, 6, 7, 8] * 3)
        self.assertEqual(told[4], [1] + [5, 4, 5, 6, 7, 8] * 3)
        self.assertEqual(told[5:], (told[1:5] * 9)[:35])

    def test_deepest_run(self):
        whens = "when x is a{when y is a{when z is a{"
        text = SETTINGS + f"part p size 1{{{whens}call p;}}}}}}}}start p;"
        told = self.soon(load(text), *[run(0, 0)] * 38, reach(0))
        self.assertEqual(told[1:39], [[1, 36, 0, 1, 0]] * 38)
        self.assertEqual(told[39], [1, 1, 0, 1, 0, 1, 0])

    def test_longest_form_shown_often(self):
        text = fill(SETTINGS + "part p size 1{", "make a+b+c;", "}start p;")
        told = self.soon(load(text), *[SHOWN] * 39)
        statements = text.count("make")
        form = ("".join(f"set {name} : a, b, c, d ;\n" for name in "xyz")
                + "part p size 1 { " + "make a + b + c ; " * statements + "}\nstart p ;\n")
        self.assertEqual(told[1:], [[len(form), *form.encode()]] * 39)

    def test_40_refusals(self):
        self.assertEqual(self.soon(*[SHOWN] * 40), [[-1]] * 40)


class LongRuns(Soon):
    def forty(self, text, call):
        """The one answer to a call that is asked as often as may be, with nothing loaded and behind a load."""
        self.assertEqual(self.soon(*[call] * 40), [[-1]] * 40)
        told = self.soon(load(text), *[call] * 39)
        self.assertEqual(told[0], [1, 3, 10, 4, 64])
        self.assertEqual(told[1:], [told[1]] * 39)
        return told[1]

    def test_they_are_long(self):
        for text, ending, least in ((TOO_LONG, 2, 100), (TOO_DEEP, 1, 94)):
            for entry in range(4):
                told = self.soon(load(text), *[run(entry, number) for number in range(25, 64)])[1:]
                self.assertEqual([answer[0] for answer in told], [ending] * 39)
                self.assertGreaterEqual(min(answer[1] for answer in told), least)

    def test_all(self):
        self.assertEqual(self.forty(TOO_LONG, ALL), [31, 24, 24, 24] + [9, *range(9)] * 3)
        self.assertEqual(self.forty(TOO_DEEP, ALL), [31, 22, 22, 22] + [8, 0, 1, 2, 3, 5, 6, 7, 8] * 3)

    def test_keep(self):
        # Each run is done again to its end, and the last of them is alike as well.
        self.assertEqual(self.forty(TOO_LONG, keep([0, 1, 2, 3])), [1, 4])
        self.assertEqual(self.forty(TOO_DEEP, keep([3, 2, 1, 0])), [1, 4])
        self.assertEqual(self.forty(TOO_LONG, keep([0, 1, 2, 3, 4] * 60)), [1, 6])
        self.assertEqual(self.forty(TOO_LONG, keep([0, 1, 2])), [0, 3, 0, 2, 3])
        self.assertEqual(self.forty(TOO_DEEP, keep([9, 10])), [-4])

    def test_made(self):
        self.assertEqual(self.forty(TOO_LONG, made(4)), [64, 4, 5, 6, 7, 8])
        self.assertEqual(self.forty(TOO_DEEP, made(0)), [64, 4, 5, 6, 7, 8])
        text = fill(SETTINGS + "part p size 1{", "make x+y+z;", "}start p;")
        told = self.soon(load(text), *[made(0)] * 39)
        self.assertEqual(told[1:], [[64, 0]] * 39)

    def test_part(self):
        self.assertEqual(self.forty(TOO_LONG, part(4)), [2, 1, 113])
        self.assertEqual(self.forty(TOO_DEEP, part(8)), [6, 3, 100, 99, 98])

    def test_all_four_in_turn_with_loads_between(self):
        turn = [load(TOO_DEEP), ALL, keep([0, 1, 2, 3]), keep(range(10)), made(0), part(0)]
        told = self.soon(*turn * 6)
        self.assertEqual(told, [[1, 3, 10, 4, 64], [31, 22, 22, 22] + [8, 0, 1, 2, 3, 5, 6, 7, 8] * 3, [1, 4], [1, 31],
                                [64, 4, 5, 6, 7, 8], [1, 2, 112, 48]] * 6)


if __name__ == "__main__":
    unittest.main()
