"""The call all: sizes and parts that some entry reaches, in three ways."""

import unittest

from helper import ALL, WORKED, all_parts, ask, load, reach_parts


class Alike(unittest.TestCase):
    def test_worked_program(self):
        self.assertEqual(all_parts(WORKED), ([35, 26, 26, 26], [[0, 1, 2, 3, 4]] * 3))

    def test_one_part(self):
        self.assertEqual(all_parts("part a size 99 { } start a ;"), ([99] * 4, [[0]] * 3))

    def test_a_part_that_no_entry_reaches(self):
        text = "part a size 5 { call b ; } part b size 7 { } part c size 11 { call a ; } start b ;"
        self.assertEqual(all_parts(text), ([23, 7, 7, 7], [[1]] * 3))

    def test_all_sizes_of_all_parts(self):
        text = "".join(f"part p{number} size 99 {{ }} " for number in range(10)) + "start p9 ;"
        self.assertEqual(all_parts(text), ([990, 99, 99, 99], [[9]] * 3))


class Unlike(unittest.TestCase):
    def test_three_lists(self):
        text = ("set x : a, b ; part p size 1 { when x is a { make q + x ; } call r ; call s ; } "
                "part qb size 2 { } part r size 4 { call r ; } part s size 8 { } part t size 16 { } start p ;")
        self.assertEqual(all_parts(text), ([31, 5, 13, 15], [[0, 2], [0, 2, 3], [0, 1, 2, 3]]))

    def test_conditions_and_branches(self):
        text = ("set x : a, b ; part p size 1 { when x is a { call q ; } } part q size 2 { when x is b { call r ; } } "
                "part r size 4 { } start p ;")
        self.assertEqual(all_parts(text), ([7, 3, 3, 7], [[0, 1], [0, 1], [0, 1, 2]]))

    def test_exactly_and_conditions(self):
        text = "part p size 1 { call p ; call q ; } part q size 2 { } start p ;"
        self.assertEqual(all_parts(text), ([3, 1, 3, 3], [[0], [0, 1], [0, 1]]))


class SeveralEntries(unittest.TestCase):
    def test_parts_in_order_and_once(self):
        text = ("part a size 1 { } part b size 2 { call d ; } part c size 4 { } part d size 8 { } "
                "part e size 16 { call c ; call d ; } start e, b ;")
        self.assertEqual(reach_parts(text, 0), ([2, 3, 4],) * 3)
        self.assertEqual(reach_parts(text, 1), ([1, 3],) * 3)
        self.assertEqual(all_parts(text), ([31, 30, 30, 30], [[1, 2, 3, 4]] * 3))

    def test_what_one_entry_may_reach_another_reaches_exactly(self):
        text = ("set x : a ; set y : a, b ; part p size 1 { when y is b { when y is a { call r ; } } } "
                "part q size 2 { call r ; } part r size 4 { } part s size 8 { call s ; call t ; } part t size 16 { } "
                "start p, q, s ;")
        self.assertEqual(reach_parts(text, 0), ([0], [0], [0, 2]))
        self.assertEqual(reach_parts(text, 2), ([3], [3, 4], [3, 4]))
        self.assertEqual(all_parts(text), ([31, 15, 31, 31], [[0, 1, 2, 3], [0, 1, 2, 3, 4], [0, 1, 2, 3, 4]]))

    def test_unlike_parts_of_four_entries(self):
        text = ("set x : a, b ; "
                "part p size 1 { } "
                "part q size 2 { when x is a { make x + x + x ; } } "
                "part r size 3 { call r ; call aab ; } "
                "part s size 4 { when x is b { make x + x ; } } "
                "part bbb size 5 { } part bb size 6 { } part aab size 7 { } part t size 8 { call p ; } "
                "start s, r, q, p ;")
        self.assertEqual(all_parts(text), (
            [36, 16, 23, 28],
            [[0, 1, 2, 3, 5], [0, 1, 2, 3, 5, 6], [0, 1, 2, 3, 4, 5, 6]],
        ))


class Refused(unittest.TestCase):
    def test_without_a_program(self):
        self.assertEqual(ask(ALL, load("start"), ALL), [[-1], [0, 3, 0], [-1]])


if __name__ == "__main__":
    unittest.main()
