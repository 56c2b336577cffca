"""The call keep: a list of parts, checked against all runs."""

import unittest

from helper import FAR, TINY, WORKED, ask, chain, keep, keep_answer, load, run_parts


class KeepTest(unittest.TestCase):
    def enough(self, text, parts, size):
        self.assertEqual(keep_answer(text, parts), [1, size])

    def unlike(self, text, parts, entry, assignment, full, kept):
        self.assertEqual(keep_answer(text, parts), [0, entry, assignment, full, kept])


class Lists(KeepTest):
    def test_worked_program(self):
        self.enough(WORKED, [0, 1, 2, 3, 4], 26)
        self.unlike(WORKED, [0, 1, 2, 3], 0, 1, 0, 3)
        self.unlike(WORKED, [0, 1, 3, 4], 0, 0, 0, 0)
        self.unlike(WORKED, [0, 1, 2, 4], 0, 1, 0, 0)
        self.unlike(WORKED, [0, 2, 3, 4], 0, 0, 0, 3)

    def test_empty(self):
        self.unlike(WORKED, [], 0, 0, 0, 3)
        self.unlike(TINY, [], 0, 0, 0, 3)

    def test_all(self):
        self.enough(WORKED, range(6), 35)
        self.enough(TINY, [0], 1)

    def test_more_than_enough(self):
        self.enough(WORKED, [0, 1, 2, 3, 4, 5], 35)
        text = "part a size 5 { } part b size 7 { } part c size 11 { } start b ;"
        self.enough(text, [1], 7)
        self.enough(text, [1, 2], 18)
        self.enough(text, [0, 1], 12)

    def test_twice_and_out_of_order(self):
        self.enough(WORKED, [4, 0, 3, 1, 2], 26)
        self.enough(WORKED, [4, 4, 3, 0, 2, 1, 0, 4, 3], 26)
        self.unlike(WORKED, [3, 3, 2, 2, 1, 0], 0, 1, 0, 3)
        self.enough("part a size 99 { } start a ;", [0, 0, 0], 99)

    def test_2000_numbers(self):
        self.enough(WORKED, [4, 3, 2, 1, 0] * 400, 26)
        self.enough(WORKED, [0] * 1995 + [1, 2, 3, 4, 5], 35)
        self.unlike(WORKED, [3, 2, 1, 0] * 500, 0, 1, 0, 3)
        self.assertEqual(keep_answer(WORKED, [0, 1, 2, 3, 4] * 399 + [0, 1, 2, 3, 6]), [-4])
        self.assertEqual(keep_answer(WORKED, [-FAR] * 2000), [-4])

    def test_no_parts_number(self):
        for wrong in (-1, -6, 6, 7, FAR, -FAR):
            self.assertEqual(keep_answer(WORKED, [wrong]), [-4])
            self.assertEqual(keep_answer(WORKED, [wrong, 0, 1, 2, 3, 4]), [-4])
            self.assertEqual(keep_answer(WORKED, [0, 1, wrong, 2]), [-4])
            self.assertEqual(keep_answer(WORKED, [0, 1, 2, 3, wrong]), [-4])
            self.assertEqual(keep_answer(WORKED, [0, 1, 2, 3, 4, wrong]), [-4])
            self.assertEqual(keep_answer(WORKED, [0, 1, 2, 3, 4, 5, wrong]), [-4])

    def test_just_as_many_parts_as_there_are(self):
        text = "".join(f"part p{number} size {number + 1} {{ }} " for number in range(10)) + "start p9 ;"
        self.enough(text, [9], 10)
        self.enough(text, [9, 0], 11)
        self.assertEqual(keep_answer(text, [9, 10]), [-4])


class EntryLeftOut(KeepTest):
    def test_one_that_says_nothing(self):
        text = "part a size 1 { } part b size 2 { } start b ;"
        self.unlike(text, [0], 0, 0, 0, 3)
        self.enough(text, [1], 2)

    def test_one_that_ends_too_deep_or_too_long(self):
        self.unlike("part a size 1 { call a ; } part b size 1 { } start a ;", [1], 0, 0, 1, 3)
        self.unlike("part a size 1 { make a ; } part b size 1 { } start a ;", [1], 0, 0, 1, 3)
        long = "part a size 1 { " + "make z ; " * 101 + "} part b size 1 { } start a ;"
        self.unlike(long, [1], 0, 0, 2, 3)

    def test_a_later_one(self):
        text = "part a size 1 { } part b size 2 { } part c size 4 { } start c, a, b ;"
        self.unlike(text, [1, 2], 1, 0, 0, 3)
        self.unlike(text, [0, 2], 2, 0, 0, 3)
        self.unlike(text, [0, 1], 0, 0, 0, 3)
        self.enough(text, [0, 1, 2], 7)


class CalledAndMade(KeepTest):
    def test_a_called_part(self):
        text = "part a size 1 { call b ; } part b size 2 { } start a ;"
        self.unlike(text, [0], 0, 0, 0, 3)
        self.enough(text, [0, 1], 3)

    def test_a_made_part(self):
        text = "part a size 1 { make b ; say 1 ; } part b size 2 { } start a ;"
        self.enough(text, [0], 1)
        says = "part a size 1 { make b ; say 1 ; } part b size 2 { say 2 ; } start a ;"
        self.unlike(says, [0], 0, 0, 0, 0)

    def test_both_called_and_made(self):
        text = "set x : b, c ; part a size 1 { make x ; call b ; } part b size 2 { } part c size 4 { } start a ;"
        self.enough(text, [0, 1], 3)
        self.unlike(text, [0, 2], 0, 0, 0, 3)

    def test_called_by_a_made_part(self):
        text = "part a size 1 { make b ; } part b size 2 { call c ; } part c size 4 { } start a ;"
        self.unlike(text, [0, 1], 0, 0, 0, 3)
        # Without b, its call of c is never come to.
        self.enough(text, [0], 1)
        self.enough(text, [0, 2], 5)

    def test_within_9_others(self):
        called = chain(9, "call p9 ;") + "part p9 size 1 { } start p0 ;"
        self.assertEqual(run_parts(called)[0], 1)
        self.unlike(called, range(9), 0, 0, 1, 3)
        self.enough(called, range(10), 10)
        made = chain(9, "make p9 ;") + "part p9 size 1 { } start p0 ;"
        self.unlike(made, range(9), 0, 0, 1, 0)
        self.enough(made, range(10), 10)
        within_8 = chain(8, "call p9 ;") + "part p9 size 1 { } start p0 ;"
        self.unlike(within_8, range(8), 0, 0, 0, 3)

    def test_called_where_no_run_comes(self):
        text = ("set x : a, b ; part a size 1 { when x is a { when x is b { call c ; } } call a ; call c ; } "
                "part c size 2 { } start a ;")
        self.enough(text, [0], 1)


class LikewiseThough(KeepTest):
    """Runs that are alike though other parts are entered, or more or fewer statements are done."""

    def test_ends_well(self):
        text = ("part a size 1 { say 3 ; make b ; say 4 ; } part b size 2 { make z ; make c ; make z ; } "
                "part c size 4 { make z ; } start a ;")
        self.assertEqual(run_parts(text), (0, 7, [3, 4], [0, 1, 2]))
        self.enough(text, [0], 1)
        self.enough(text, [0, 1], 3)
        self.enough(text, [0, 2], 5)

    def test_ends_too_deep(self):
        text = "part a size 1 { say 5 ; make b ; call a ; } part b size 2 { make z ; } start a ;"
        self.assertEqual(run_parts(text), (1, 34, [5] * 9, [0, 1]))
        self.enough(text, [0], 1)

    def test_ends_too_long(self):
        text = ("part a size 1 { say 6 ; make b ; " + "make z ; " * 120 + "say 7 ; } "
                "part b size 2 { make z ; make z ; } start a ;")
        self.assertEqual(run_parts(text), (2, 100, [6], [0, 1]))
        self.enough(text, [0], 1)

    def test_another_part_is_too_deep(self):
        text = chain(8, "make p8 ; call p0 ;") + "part p8 size 1 { call p8 ; } start p0 ;"
        self.assertEqual(run_parts(text)[0], 1)
        self.enough(text, range(8), 8)


class Unlike(KeepTest):
    def test_only_in_what_is_said(self):
        text = "part a size 1 { say 1 ; make b ; say 1 ; } part b size 2 { say 1 ; } start a ;"
        self.unlike(text, [0], 0, 0, 0, 0)
        deep = "part a size 1 { make b ; call a ; } part b size 2 { say 1 ; } start a ;"
        self.unlike(deep, [0], 0, 0, 1, 1)
        long = "part a size 1 { make b ; " + "make z ; " * 120 + "} part b size 2 { say 1 ; } start a ;"
        self.unlike(long, [0], 0, 0, 2, 2)

    def test_only_in_the_order_of_what_is_said(self):
        text = ("part a size 1 { make b ; " + "make z ; " * 97 + "say 4 ; say 2 ; make z ; } "
                "part b size 2 { say 2 ; } start a ;")
        self.assertEqual(run_parts(text), (2, 100, [2, 4], [0, 1]))
        # Without b it says 4, then 2, and is too long as well.
        self.unlike(text, [0], 0, 0, 2, 2)
        self.enough(text.replace("say 2", "say 4"), [0], 1)

    def test_more_is_said(self):
        text = "part a size 1 { make b ; " + "say 1 ; " * 120 + "} part b size 2 { make z ; } start a ;"
        self.unlike(text, [0], 0, 0, 2, 2)
        # The ninth a makes b too deep, but without b it says 5 before it calls a too deep.
        deep = "part a size 1 { make b ; say 5 ; call a ; } part b size 2 { make z ; } start a ;"
        self.assertEqual(run_parts(deep), (1, 33, [5] * 8, [0, 1]))
        self.unlike(deep, [0], 0, 0, 1, 1)

    def test_only_in_how_they_end(self):
        text = "part a size 1 { say 1 ; call b ; } part b size 2 { } start a ;"
        self.unlike(text, [0], 0, 0, 0, 3)
        deep = "part a size 1 { say 1 ; make b ; } part b size 2 { call b ; } start a ;"
        self.unlike(deep, [0], 0, 0, 1, 0)
        long = "part a size 1 { say 1 ; make b ; } part b size 2 { " + "make z ; " * 99 + "} start a ;"
        self.unlike(long, [0], 0, 0, 2, 0)

    def test_too_long_or_too_deep_by_what_is_left_out(self):
        long = "make z ; " * 100
        self.unlike(f"part a size 1 {{ make b ; call a ; }} part b size 2 {{ {long} }} start a ;", [0], 0, 0, 2, 1)
        self.unlike(f"part a size 1 {{ make b ; {long} }} part b size 2 {{ call b ; }} start a ;", [0], 0, 0, 1, 2)
        self.unlike(f"part a size 1 {{ call b ; }} part b size 2 {{ {long} }} start a ;", [0], 0, 0, 2, 3)
        self.unlike("part a size 1 { make b ; say 1 ; } part b size 2 { call b ; } start a ;", [0], 0, 0, 1, 0)

    def test_a_statement_less_and_no_longer_too_long(self):
        says = "make z ; " * 99
        text = f"part a size 1 {{ make b ; {says} }} part b size 2 {{ make z ; }} start a ;"
        self.unlike(text, [0], 0, 0, 2, 0)
        text = f"part a size 1 {{ make b ; {says} }} part b size 2 {{ }} start a ;"
        self.enough(text, [0], 1)


class TheFirst(KeepTest):
    TEXT = ("set x : a, b, c ; part q size 1 { } part r size 2 { } "
            "part s size 4 { when x is b { call q ; } when x is c { call q ; } } part t size 8 { call q ; } "
            "start r, s, t ;")

    def test_entry_by_entry(self):
        # Entry 2 is unlike in assignment 0 already, but entry 1 comes first.
        self.unlike(self.TEXT, [1, 2, 3], 1, 1, 0, 3)
        self.unlike(self.TEXT, [0, 1, 2], 2, 0, 0, 3)
        self.unlike(self.TEXT, [0, 1, 3], 1, 0, 0, 3)
        self.unlike(self.TEXT, [2, 3], 0, 0, 0, 3)
        self.enough(self.TEXT, [0, 1, 2, 3], 15)

    def test_an_entry_is_not_its_part(self):
        text = "part a size 1 { } part b size 2 { } part c size 4 { make a ; call b ; } start c, a ;"
        self.unlike(text, [0, 2], 0, 0, 0, 3)
        self.unlike(text, [1, 2], 1, 0, 0, 3)
        self.unlike(text, [0, 1], 0, 0, 0, 3)

    def test_the_last_assignment_of_the_last_entry(self):
        settings = "".join(f"set {name} : a, b, c, d ; " for name in "xyz")
        text = (settings + "part p size 1 { make a ; } part q size 2 { } part r size 3 { } "
                "part s size 4 { make q + x ; when x is d { when y is d { when z is d { make q ; } } } call q ; } "
                "part t size 5 { when x is d { when y is d { when z is d { say 1 ; make u ; } } } } "
                "part u size 6 { say 2 ; } start q, r, s, t ;")
        self.unlike(text, [1, 2, 3, 4], 3, 63, 0, 0)
        self.enough(text, [1, 2, 3, 4, 5], 20)
        self.assertEqual(run_parts(text, 3, 63), (0, 6, [1, 2], [4, 5]))

    def test_assignments_in_their_order(self):
        text = ("set x : a, b ; set y : c, d ; part p size 1 { when y is d { call q ; } when x is b { make q ; } } "
                "part q size 2 { say 1 ; } start p ;")
        self.unlike(text, [0], 0, 1, 0, 0)
        text = text.replace("make q ;", "")
        self.unlike(text, [0], 0, 2, 0, 3)


class Refused(unittest.TestCase):
    def test_in_their_order(self):
        self.assertEqual(ask(keep([]), keep([0]), keep([FAR])), [[-1]] * 3)
        told = ask(load(TINY), keep([1]), keep([0]), keep([]), keep([0, 1]))
        self.assertEqual(told[1:], [[-4], [1, 1], [0, 0, 0, 0, 3], [-4]])


if __name__ == "__main__":
    unittest.main()
