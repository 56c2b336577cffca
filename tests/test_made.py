"""The call made: what names a part's makes make."""

import unittest

from helper import FAR, WORKED, ask, load, made

SETTINGS = "set x : a, b ; set y : a, b, c ; "


def with_makes(makes, settings=SETTINGS, others=""):
    return f"{settings} part p size 1 {{ {makes} }} {others} start p ;"


class Made(unittest.TestCase):
    def made(self, text, how_many, parts, of_part=0):
        self.assertEqual(ask(load(text), made(of_part))[1], [how_many, len(parts)] + parts)

    def test_worked_program(self):
        self.made(WORKED, 2, [2, 3])
        for number in range(1, 6):
            self.made(WORKED, 0, [], number)

    def test_without_makes(self):
        self.made(with_makes("say 1 ; call p ; when x is a { call p ; }"), 0, [])

    def test_one_piece(self):
        self.made(with_makes("make p ;"), 1, [0])
        self.made(with_makes("make q ;"), 1, [])
        self.made(with_makes("make x ;", others="part a size 1 { }"), 2, [1])

    def test_the_same_name_counts_once(self):
        self.made(with_makes("make q ; make q ; when x is a { make q ; }", others="part q size 1 { }"), 1, [1])
        self.made(with_makes("make x ; make y ; make a ;"), 3, [])
        self.made(with_makes("make x + q ; make a + q ; make y + q ;", others="part cq size 1 { }"), 3, [1])

    def test_the_same_name_of_other_pieces(self):
        self.made(with_makes("make abc ; make a + bc ; make ab + c ; make a + b + c ;"), 1, [])
        # a + bb and ab + b are the same name.
        text = with_makes("make x + y ;", "set x : a, ab ; set y : b, bb ; ", "part abb size 1 { } part ab size 1 { }")
        self.made(text, 3, [1, 2])

    def test_the_same_setting_has_the_same_word(self):
        self.made(with_makes("make x + x ;", others="part ab size 1 { } part bb size 1 { }"), 2, [2])
        self.made(with_makes("make x + y + x ;"), 6, [])

    def test_in_all_assignments(self):
        self.made(with_makes("make x + y ;", others="part ac size 1 { } part bc size 1 { } part ca size 1 { }"),
                  6, [1, 2])
        settings = "set x : a, b, c, d ; set y : e, f, g, h ; set z : i, j, k, l ; "
        self.made(with_makes("make x + y + z ;", settings, "part dhl size 1 { } part aei size 1 { }"), 64, [1, 2])

    def test_also_in_any_when(self):
        makes = "when x is a { when x is b { make q ; when y is c { make r + x ; } } make s + x ; }"
        others = "part sb size 1 { } part q size 1 { } part ra size 1 { } part sa size 1 { }"
        self.made(with_makes(makes, others=others), 5, [1, 2, 3, 4])

    def test_no_part_has_the_name(self):
        self.made(with_makes("make x + y ; make zz ; make P ;"), 8, [])

    def test_longer_than_a_name_may_be(self):
        name = "q" * 16
        self.made(with_makes(f"make {name} + {name} ; make {name} ;", others=f"part {name} size 1 {{ }}"), 2, [1])

    def test_parts_in_their_order(self):
        self.made(with_makes("make d ; make b ; make c ; make p ;",
                             others="part b size 1 { } part c size 1 { } part d size 1 { }"), 4, [0, 1, 2, 3])

    def test_each_part_for_itself(self):
        text = with_makes("call q ; make q ;", others="part q size 1 { make p ; make r ; } part r size 1 { }")
        self.made(text, 1, [1], 0)
        self.made(text, 2, [0, 2], 1)
        self.made(text, 0, [], 2)

    def test_where_no_run_comes(self):
        text = "part p size 1 { call p ; make q ; } part q size 1 { make p ; } start p ;"
        self.made(text, 1, [1], 0)
        self.made(text, 1, [0], 1)


class Refused(unittest.TestCase):
    def test_in_their_order(self):
        self.assertEqual(ask(made(0), made(-1), made(FAR)), [[-1]] * 3)
        for wrong in (6, 7, 10, -1, -6, FAR, -FAR):
            self.assertEqual(ask(load(WORKED), made(wrong))[1], [-4])


if __name__ == "__main__":
    unittest.main()
