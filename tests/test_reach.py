"""What an entry reaches: exactly, by conditions, by all branches."""

import unittest

from helper import FAR, WORKED, ask, load, reach, reach_parts


class Alike(unittest.TestCase):
    def test_worked_program(self):
        self.assertEqual(reach_parts(WORKED), ([0, 1, 2, 3, 4],) * 3)

    def test_itself_alone(self):
        self.assertEqual(reach_parts("part a size 1 { } part b size 1 { call a ; } start a ;"), ([0],) * 3)

    def test_in_order_of_parts(self):
        text = ("part a size 1 { } part b size 1 { } part c size 1 { call d ; call b ; } "
                "part d size 1 { call a ; } start c ;")
        self.assertEqual(reach_parts(text), ([0, 1, 2, 3],) * 3)

    def test_round_and_round(self):
        text = "part a size 1 { call b ; } part b size 1 { call c ; } part c size 1 { call a ; } start b ;"
        self.assertEqual(reach_parts(text), ([0, 1, 2],) * 3)

    def test_each_entry_for_itself(self):
        text = ("part a size 1 { call c ; } part b size 1 { } part c size 1 { } part d size 1 { } start b, a, d ;")
        self.assertEqual(reach_parts(text, 0), ([1],) * 3)
        self.assertEqual(reach_parts(text, 1), ([0, 2],) * 3)
        self.assertEqual(reach_parts(text, 2), ([3],) * 3)

    def test_unlike_parts_in_unlike_assignments(self):
        text = ("set x : a, b ; part p size 1 { make q + x ; when x is b { call r ; } } part qa size 1 { } "
                "part qb size 1 { } part r size 1 { } start p ;")
        self.assertEqual(reach_parts(text), ([0, 1, 2, 3],) * 3)


class ByBranchesAlone(unittest.TestCase):
    def test_a_when_that_never_holds(self):
        text = ("set x : a, b ; part p size 1 { when x is a { when x is b { call q ; } } } "
                "part q size 1 { call r ; } part r size 1 { } start p ;")
        self.assertEqual(reach_parts(text), ([0], [0], [0, 1, 2]))

    def test_a_made_name_of_another_assignment_than_its_when(self):
        text = "set x : a, b ; part p size 1 { when x is a { make q + x ; } } part qb size 1 { } start p ;"
        self.assertEqual(reach_parts(text), ([0], [0], [0, 1]))

    def test_whens_of_parts_one_behind_another(self):
        text = ("set x : a, b ; part p size 1 { when x is a { call q ; } } part q size 1 { when x is b { call r ; } } "
                "part r size 1 { } start p ;")
        self.assertEqual(reach_parts(text), ([0, 1], [0, 1], [0, 1, 2]))

    def test_names_of_unlike_assignments_in_a_row(self):
        text = ("set x : a, b ; part p size 1 { make x ; } part a size 1 { make x + x ; } part bb size 1 { } "
                "part aa size 1 { } start p ;")
        self.assertEqual(reach_parts(text), ([0, 1, 3], [0, 1, 3], [0, 1, 2, 3]))

    def test_a_name_that_no_assignment_makes(self):
        text = ("set x : a, b ; part p size 1 { make x + x ; } part ab size 1 { } part bb size 1 { } "
                "part xx size 1 { } start p ;")
        self.assertEqual(reach_parts(text), ([0, 2],) * 3)

    def test_an_inner_when_that_holds_in_one_that_does_not(self):
        text = ("set x : a, b ; set y : c, d ; part p size 1 { when x is a { when y is c { when x is b { call q ; } "
                "} call r ; } } part q size 1 { } part r size 1 { } start p ;")
        self.assertEqual(reach_parts(text), ([0, 2], [0, 2], [0, 1, 2]))


class NotExactly(unittest.TestCase):
    def test_later_than_a_run_goes(self):
        for how_many, exactly in ((99, [0, 1]), (100, [0])):
            text = "part a size 1 { " + "say 1 ; " * how_many + "call b ; } part b size 1 { } start a ;"
            self.assertEqual(reach_parts(text), (exactly, [0, 1], [0, 1]))

    def test_deeper_than_a_run_goes(self):
        # The part that is too deep counts as entered; what it calls is not come to.
        text = "".join(f"part p{number} size 1 {{ call p{number + 1} ; }} " for number in range(9))
        deep = text + "part p9 size 1 { } start p0 ;"
        self.assertEqual(reach_parts(deep), (list(range(10)),) * 3)
        again = text.replace("call p1 ;", "call p0 ; call p1 ;") + "part p9 size 1 { } start p0, p1 ;"
        self.assertEqual(reach_parts(again, 0), ([0], list(range(10)), list(range(10))))
        self.assertEqual(reach_parts(again, 1), (list(range(1, 10)),) * 3)

    def test_behind_a_part_that_is_too_deep(self):
        text = "part a size 1 { call b ; call c ; } part b size 1 { call b ; } part c size 1 { } start a ;"
        self.assertEqual(reach_parts(text), ([0, 1], [0, 1, 2], [0, 1, 2]))

    def test_all_three_differ(self):
        text = ("set x : a, b ; part p size 1 { when x is a { make q + x ; } call r ; call s ; } "
                "part qb size 1 { } part r size 1 { call r ; } part s size 1 { } part t size 1 { } start p ;")
        self.assertEqual(reach_parts(text), ([0, 2], [0, 2, 3], [0, 1, 2, 3]))


class Refused(unittest.TestCase):
    def test_no_program_then_no_entry(self):
        self.assertEqual(ask(reach(0), reach(5)), [[-1], [-1]])
        for entry in (1, 5, -1, FAR, -FAR):
            self.assertEqual(ask(load(WORKED), reach(entry))[1], [-2])


if __name__ == "__main__":
    unittest.main()
