"""Right programs, and faults 3 to 9 with their places."""

import unittest

from helper import TINY, WORKED, load_answer


def marked(text):
    """A text without its mark ^, and the place where the mark stands."""
    place = text.index("^")
    return text.replace("^", ""), place


class LoadTest(unittest.TestCase):
    def right(self, text, settings, parts, entries, assignments):
        self.assertEqual(load_answer(text), [1, settings, parts, entries, assignments], text)

    def fault(self, code, text):
        """The fault is told at the mark."""
        plain, place = marked(text)
        self.assertEqual(load_answer(plain), [0, code, place], text)


def parts_told(how_many):
    return "".join(f"part p{number} size 1 {{ }} " for number in range(how_many))


class Right(LoadTest):
    def test_counts(self):
        self.right(WORKED, 1, 6, 1, 2)
        self.right(TINY, 0, 1, 1, 1)
        self.right("set x : p ; set y : p, q ; set z : p, q, r ; " + TINY, 3, 1, 1, 6)

    def test_most_of_all(self):
        settings = "set x : a, b, c, d ; set y : a, b, c, d ; set z : a, b, c, d ; "
        whens = "when x is a { when y is b { when z is d { make x + y + z ; } } } "
        text = settings + f"part q size 99 {{ {whens} say 99 ; say 1 ; }} " + parts_told(9) + "start p0, p1, q, p8 ;"
        self.right(text, 3, 10, 4, 64)

    def test_names_that_may_be_told_twice(self):
        # A word may be like a setting, a part, or a word of another setting; a piece like anything.
        self.right("set x : x, a ; set y : x, y ; part a size 1 { make a + x + zz ; when x is x { } } start a ;",
                   2, 1, 1, 4)
        self.right("part a size 1 { call b ; call a ; call b ; } part b size 1 { } start b ;", 0, 2, 1, 1)
        self.right("set x : a ; part p size 1 { when x is a { when x is a { } } } start p ;", 1, 1, 1, 1)

    def test_a_made_name_need_be_no_part(self):
        self.right("part a size 1 { make b ; make st + art ; } start a ;", 0, 1, 1, 1)


class Fault3(LoadTest):
    def test_first_token(self):
        for text in ("^a", "^7", "^;", "^{ }", "^start a ;", "^size", "^is", "^say 1 ;"):
            self.fault(3, text)

    def test_settings(self):
        self.fault(3, "set ^: a ;")
        self.fault(3, "set ^1")
        self.fault(3, "set x ^a ;")
        self.fault(3, "set x : ^; part")
        self.fault(3, "set x : a ^b ;")
        self.fault(3, "set x : a, ^, b ;")
        self.fault(3, "set x : a, ^;")
        self.fault(3, "set x : a, b ^part")
        self.fault(3, "set x : a ^+ b ;")
        self.fault(3, "set x : a ; ^start")
        self.fault(3, "set x : a ; ^;")
        self.fault(3, "set x : a ; part p size 1 { } ^set y : a ; start p ;")

    def test_parts(self):
        self.fault(3, "part ^1 size 1 { } start a ;")
        self.fault(3, "part a ^1 { } start a ;")
        self.fault(3, "part a size ^b { } start a ;")
        self.fault(3, "part a size ^{ } start a ;")
        self.fault(3, "part a size 1 ^; start a ;")
        self.fault(3, "part a size 1 ^} start a ;")
        self.fault(3, "part a size 1 { ^{ } } start a ;")
        self.fault(3, "part a size 1 { ^; } start a ;")
        self.fault(3, "part a size 1 { } ^} start a ;")
        self.fault(3, "part a size 1 { ^part b size 1 { } } start a ;")
        self.fault(3, "part a size 1 { ^start a ;")
        self.fault(3, "part a size 1 { } ^a")

    def test_statements(self):
        for wrong in ("^a ;", "^set", "say ^a ;", "say ^; ", "say 1 ^2 ;", "say 1 ^}", "call ^1 ;", "call ^;",
                      "call a ^a ;", "call a ^+ b ;", "call ^say ;", "make ^;", "make ^1 ;", "make a + ^;",
                      "make a ^, b ;", "make a ^a ;", "make a + ^+ a ;", "make ^when ;", "when ^1 is a { }",
                      "when ^is is a { }", "when x ^a { }", "when x is ^1 { }", "when x is ^is { }",
                      "when x is a ^;", "when x is a { ^a", "when x is a { } ^;", "^is"):
            self.fault(3, f"set x : a ; part p size 1 {{ {wrong} }} start p ;")

    def test_entries(self):
        for wrong in ("start ^;", "start ^1 ;", "start a ^b ;", "start a ^+ a ;", "start a, ^; ", "start ^start ;",
                      "start a ; ^;", "start a ; ^start a ;", "start a ; ^part b size 1 { }", "start a ; ^a"):
            self.fault(3, "part a size 1 { } part b size 1 { } " + wrong)

    def test_missing_end(self):
        text = "set x : a ; part p size 1 { say 1 ; call p ; make p + x ; when x is a { } } start p ;"
        tokens = text.split(" ")
        for length in range(len(tokens)):
            short = " ".join(tokens[:length])
            self.assertEqual(load_answer(short), [0, 3, len(short)])
        self.right(text, 1, 1, 1, 1)


class Fault4(LoadTest):
    SETTINGS = "set x : a ; set y : a ; set z : a ; "

    def test_fourth_setting(self):
        self.right(self.SETTINGS + TINY, 3, 1, 1, 1)
        self.fault(4, self.SETTINGS + "^set w : a ; " + TINY)
        self.fault(4, self.SETTINGS + "^set x")
        self.fault(4, self.SETTINGS + "^set")

    def test_fifth_word(self):
        self.right("set x : a, b, c, d ; part p size 1 { } start p ;", 1, 1, 1, 4)
        self.fault(4, "set x : a, b, c, d, ^e ; part p size 1 { } start p ;")
        self.fault(3, "set x : a, b, c, d, ^; part p size 1 { } start p ;")

    def test_eleventh_part(self):
        self.right(parts_told(10) + "start p0 ;", 0, 10, 1, 1)
        self.fault(4, parts_told(10) + "^part p10 size 1 { } start p0 ;")
        self.fault(4, parts_told(10) + "^part")

    def test_fourth_piece(self):
        self.right("part a size 1 { make b + b + b ; } start a ;", 0, 1, 1, 1)
        self.fault(4, "part a size 1 { make b + b + b + ^b ; } start a ;")
        self.fault(3, "part a size 1 { make b + b + b + ^; } start a ;")

    def test_fifth_entry(self):
        self.right(parts_told(5) + "start p0, p1, p2, p3 ;", 0, 5, 4, 1)
        self.fault(4, parts_told(5) + "start p0, p1, p2, p3, ^p4 ;")
        self.fault(3, parts_told(5) + "start p0, p1, p2, p3, ^4 ;")

    def test_when_in_three_others(self):
        first = "set x : a ; part p size 1 { when x is a { when x is a { when x is a { "
        self.right(first + "} when x is a { } } when x is a { } } when x is a { } } start p ;", 1, 1, 1, 1)
        self.fault(4, first + "^when x is a { } } } } } start p ;")
        self.fault(4, first + "say 1 ; ^when")
        self.fault(4, first + "} when x is a { say 1 ; ^when")

    def test_whens_behind_one_another_are_not_counted(self):
        whens = "when x is a { } " * 5
        self.right(f"set x : a ; part p size 1 {{ when x is a {{ {whens} }} {whens} }} start p ;", 1, 1, 1, 1)


class Fault5(LoadTest):
    def test_setting_told_before(self):
        self.fault(5, "set x : a ; set ^x : b ; part p size 1 { } start p ;")
        self.fault(5, "set x : a ; set y : a ; set ^x : b ;")
        self.fault(5, "set x : a ; set y : a ; set ^y")

    def test_word_told_before(self):
        self.fault(5, "set x : a, ^a ; part p size 1 { } start p ;")
        self.fault(5, "set x : a, b, c, ^b ;")
        self.right("set x : a, b ; set y : b, a ; part p size 1 { } start p ;", 2, 1, 1, 4)

    def test_part_told_before(self):
        self.fault(5, "part a size 1 { } part ^a size 1 { } start a ;")
        self.fault(5, "part a size 1 { } part b size 1 { } part ^a")
        self.fault(5, "set x : a ; part ^x size 1 { } start x ;")
        self.fault(5, "set x : a ; set y : a ; part a size 1 { } part ^y size 1 { }")


class Fault6(LoadTest):
    def test_entry_told_before(self):
        self.fault(6, "part a size 1 { } start a, ^a ;")
        self.fault(6, "part a size 1 { } part b size 1 { } start b, a, ^b ;")
        self.fault(6, "part a size 1 { } part b size 1 { } start b, a, ^a, c ;")


class Fault7(LoadTest):
    def test_size(self):
        self.right("part a size 99 { } part b size 1 { } start a ;", 0, 2, 1, 1)
        for number in ("0", "100", "999", "1000000000"):
            self.fault(7, f"part a size ^{number} {{ }} start a ;")

    def test_say(self):
        self.right("part a size 1 { say 1 ; say 99 ; } start a ;", 0, 1, 1, 1)
        for number in ("0", "100", "1000000000"):
            self.fault(7, f"part a size 1 {{ say 5 ; say ^{number} ; }} start a ;")


class Fault8(LoadTest):
    FIRST = "set x : a, b ; set y : c ; part p size 1 { "

    def test_no_setting_behind_when(self):
        for name in ("^z", "^p", "^a", "^X"):
            self.fault(8, self.FIRST + f"when {name} is a {{ }} }} start p ;")
        self.fault(8, "part p size 1 { when ^p is p { } } start p ;")

    def test_no_word_behind_is(self):
        for word in ("^c", "^x", "^p", "^zz", "^A"):
            self.fault(8, self.FIRST + f"when x is {word} {{ }} }} start p ;")

    def test_no_part_behind_start(self):
        for name in ("^x", "^a", "^q", "^P", "p, ^q"):
            self.fault(8, self.FIRST + f"}} start {name} ;")


class Fault9(LoadTest):
    def test_no_part_behind_call(self):
        self.fault(9, "part a size 1 { call ^b ; } start a ;")
        self.fault(9, "set x : b ; part a size 1 { call ^x ; } start a ;")
        self.fault(9, "set x : b ; part a size 1 { call ^b ; } start a ;")
        self.fault(9, "set x : b ; part a size 1 { when x is b { call a ; call ^A ; } } start a ;")

    def test_the_first_one(self):
        self.fault(9, "part a size 1 { call b ; call a ; call ^c ; call d ; } part b size 1 { call e ; } start a ;")

    def test_a_later_part_is_right(self):
        self.right("part a size 1 { call b ; } part b size 1 { call a ; } start b, a ;", 0, 2, 2, 1)


class WhichIsTold(LoadTest):
    def test_2_before_those_further_left(self):
        self.fault(2, "part part set 0 ^@")
        self.fault(2, "part a size 100 { } start b ; ^00")
        self.fault(2, "} ^1000000001")

    def test_from_left_to_right(self):
        self.fault(3, "part a size 1 ^1 { say 0 ; } start b ;")
        self.fault(7, "part a size ^0 ; { say 0 ; } start b ;")
        self.fault(5, "set x : a, ^a, b, c, d ; part")
        self.fault(4, "set x : a, b, c, d, ^e, a ; part x")
        self.fault(8, "part a size 1 { when ^x is y { say 0 ; } } start a, a ;")
        self.fault(6, "part a size 1 { } start a, ^a, b ;")
        self.fault(8, "part a size 1 { } start a, ^b, a ;")
        self.fault(5, "part a size 1 { } part ^a size 0 ;")

    def test_a_fault_is_told_before_what_behind_it_is_read(self):
        self.fault(5, "set x : a ; set ^x ;")
        self.fault(5, "set x : a, ^a a ;")
        self.fault(8, "set x : a ; part p size 1 { when ^y { } } start p ;")
        self.fault(8, "set x : a ; part p size 1 { when x is ^y ; } start p ;")
        self.fault(7, "part a size 1 { say ^0 } start a ;")
        self.fault(6, "part a size 1 { } start a, ^a")
        self.fault(4, "part a size 1 { make a + a + a + ^a } start a ;")

    def test_the_lesser_at_one_token(self):
        self.fault(4, "set x : a, b, c, d, ^a ;")
        self.fault(4, parts_told(4) + "start p0, p1, p2, p3, ^p0 ;")
        self.fault(4, parts_told(4) + "start p0, p1, p2, p3, ^p9 ;")

    def test_9_behind_all_others(self):
        self.fault(8, "part a size 1 { call b ; } start ^b ;")
        self.fault(3, "part a size 1 { call b ; } start a ; ^a")
        self.fault(7, "part a size 1 { call b ; say ^0 ; } start a ;")
        self.fault(4, "part a size 1 { call b ; make a + a + a + ^a ; } start a ;")
        self.fault(6, "part a size 1 { call b ; } start a, ^a ;")
        self.fault(5, "part a size 1 { call b ; } part ^a size 1 { } start a ;")
        self.fault(9, "part a size 1 { call ^b ; } start a ;")


if __name__ == "__main__":
    unittest.main()
