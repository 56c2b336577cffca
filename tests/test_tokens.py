"""Texts and tokens at their edges, as load tells them."""

import unittest

from helper import TINY, as_bytes, ask, load, load_answer, shown

RIGHT = [1, 0, 1, 1, 1]


def filled(length):
    """A right program of just so many bytes."""
    return TINY + " " * (length - len(TINY))


class Length(unittest.TestCase):
    def test_4096_and_4097_bytes(self):
        self.assertEqual(load_answer(filled(4096)), RIGHT)
        self.assertEqual(load_answer(filled(4097)), [0, 1, 4096])
        self.assertEqual(load_answer(TINY + "#" * (4096 - len(TINY))), RIGHT)

    def test_too_long_is_told_before_all_else(self):
        self.assertEqual(load_answer("@" * 4097), [0, 1, 4096])
        self.assertEqual(load_answer(" " * 8192), [0, 1, 4096])
        self.assertEqual(load_answer("@" * 4096), [0, 2, 0])
        self.assertEqual(load_answer(" " * 4096), [0, 3, 4096])


class Names(unittest.TestCase):
    def test_16_and_17_bytes(self):
        name = "aB3456789012345Z"
        self.assertEqual(len(name), 16)
        text = f"part {name} size 1 {{ }} start {name} ;"
        self.assertEqual(load_answer(text), RIGHT)
        self.assertEqual(load_answer(f"part {name}x size 1 {{ }} start {name}x ;"), [0, 2, 5])
        self.assertEqual(load_answer(f"part {name}7 size 1"), [0, 2, 5])
        self.assertEqual(load_answer("part " + "q" * 4000), [0, 2, 5])

    def test_all_letters_and_digits(self):
        for name in ("ABCDEFGHIJKLM", "NOPQRSTUVWXYZ", "abcdefghijklm", "nopqrstuvwxyz", "a0123456789", "Z"):
            text = f"part {name} size 1 {{ }}\nstart {name} ;\n"
            self.assertEqual(shown(text), text)

    def test_no_other_letters(self):
        for byte in (0, 9 + 2, 13, 64, 91, 96, 123 + 1, 126, 127, 128, 170, 178, 228, 255, 95, 45, 46, 63, 34, 37):
            text = as_bytes("part a") + [byte] + as_bytes(" size 1 { } start a ;")
            self.assertEqual(load_answer(text), [0, 2, 6], byte)

    def test_words_are_no_names(self):
        for word in ("set", "part", "size", "start", "say", "call", "make", "when", "is"):
            self.assertEqual(load_answer(f"part {word} size 1"), [0, 3, 5])
            self.assertEqual(load_answer(f"set {word} : a ;"), [0, 3, 4])
            self.assertEqual(load_answer(f"set a : {word} ;"), [0, 3, 8])

    def test_names_that_are_nearly_words(self):
        for name in ("Set", "sets", "set1", "starT", "i", "iss", "mak", "end", "name", "number"):
            text = f"part {name} size 1 {{ }}\nstart {name} ;\n"
            self.assertEqual(shown(text), text)

    def test_large_and_small_letters_are_unlike(self):
        self.assertEqual(load_answer("part a size 1 { } part A size 1 { } start A, a ;"), [1, 0, 2, 2, 1])


class Numbers(unittest.TestCase):
    def size(self, digits):
        return load_answer(f"part a size {digits} {{ }} start a ;")

    def test_greatest(self):
        self.assertEqual(self.size("1000000000"), [0, 7, 12])
        self.assertEqual(self.size("1000000001"), [0, 2, 12])
        self.assertEqual(self.size("9999999999"), [0, 2, 12])
        self.assertEqual(self.size("10000000000"), [0, 2, 12])
        self.assertEqual(self.size("1" * 4000), [0, 2, 12])
        self.assertEqual(self.size("999999999"), [0, 7, 12])

    def test_zero_in_front(self):
        self.assertEqual(self.size("01"), [0, 2, 12])
        self.assertEqual(self.size("00"), [0, 2, 12])
        self.assertEqual(self.size("007"), [0, 2, 12])
        self.assertEqual(self.size("0"), [0, 7, 12])
        self.assertEqual(self.size("10"), RIGHT)

    def test_zero_straight_before_a_letter(self):
        self.assertEqual(load_answer("part a size 0b { }"), [0, 7, 12])
        self.assertEqual(load_answer("0b"), [0, 3, 0])

    def test_digit_straight_before_a_letter(self):
        # Two tokens, a number and a name: so fault 3 at the letter, not fault 2.
        self.assertEqual(load_answer("part a size 1b { } start a ;"), [0, 3, 13])
        self.assertEqual(load_answer("part a size 1{ say 3is"), [0, 3, 20])
        self.assertEqual(load_answer("1a"), [0, 3, 0])
        # The name behind the digit is looked at for itself.
        self.assertEqual(load_answer("1" + "a" * 17), [0, 2, 1])

    def test_letter_straight_before_a_digit(self):
        self.assertEqual(load_answer("part a size1 { } start a ;"), [0, 3, 7])
        self.assertEqual(load_answer("part a size 1 { say2 ; } start a ;"), [0, 3, 16])

    def test_no_signs_of_numbers(self):
        self.assertEqual(self.size("-1"), [0, 2, 12])
        self.assertEqual(self.size("+1"), [0, 3, 12])
        self.assertEqual(self.size("1.5"), [0, 2, 13])


class BlanksAndRemarks(unittest.TestCase):
    def test_blanks(self):
        text = "\n\t part\ta\nsize\t 1\n{\n}\tstart a;\t\n "
        self.assertEqual(load_answer(text), RIGHT)

    def test_no_blanks_where_none_are_needed(self):
        text = "set x:p,q;part a size 1{say 2;make a+x;when x is q{}}start a;"
        self.assertEqual(load_answer(text), [1, 1, 1, 1, 2])

    def test_other_bytes_are_no_blanks(self):
        for byte in (0, 8, 11, 12, 13, 31, 33, 160):
            self.assertEqual(load_answer([32, byte] + as_bytes(TINY)), [0, 2, 1], byte)
            self.assertEqual(load_answer(as_bytes(TINY) + [byte]), [0, 2, len(TINY)], byte)

    def test_remarks_end_at_byte_10(self):
        self.assertEqual(load_answer("# @ part 00 #\npart a#x\nsize 1 { } start a ;"), RIGHT)
        self.assertEqual(load_answer("#\n##\n" + TINY), RIGHT)
        # No other byte ends a remark.
        self.assertEqual(load_answer(as_bytes("#") + [13] + as_bytes(TINY)), [0, 3, len(TINY) + 2])
        self.assertEqual(load_answer("#\n@"), [0, 2, 2])

    def test_remarks_end_at_the_end(self):
        self.assertEqual(load_answer(TINY + "# the end"), RIGHT)
        self.assertEqual(load_answer(TINY + "#"), RIGHT)
        self.assertEqual(load_answer("#"), [0, 3, 1])

    def test_any_byte_may_stand_in_a_remark(self):
        remark = [35] + [byte for byte in range(256) if byte != 10]
        self.assertEqual(load_answer(remark + [10] + as_bytes(TINY) + remark), RIGHT)

    def test_remarks_and_blanks_part_tokens(self):
        self.assertEqual(load_answer("pa#\nrt a size 1 { } start a ;"), [0, 3, 0])
        self.assertEqual(load_answer("part#\na size 1 { } start a ;"), RIGHT)
        self.assertEqual(load_answer("part a size 1 0 { } start a ;"), [0, 3, 14])

    def test_they_mean_nothing(self):
        tokens = TINY.split(" ")
        for between in (" ", "\n", "\t", "#x\n", " # @ \n\t"):
            told = ask(load(between + between.join(tokens) + between), [1])
            self.assertEqual(bytes(told[1][1:]), b"part a size 1 { }\nstart a ;\n")


class End(unittest.TestCase):
    def test_empty_text(self):
        self.assertEqual(load_answer(""), [0, 3, 0])

    def test_place_of_a_fault_at_the_end(self):
        for text in ("part", "part a ", "part a size 1 { } start a", "part a size 1 {\n\n", "set x : y, # z", TINY[:-1]):
            self.assertEqual(load_answer(text), [0, 3, len(text)])

    def test_first_of_two_places_without_a_token(self):
        self.assertEqual(load_answer("part 00 @"), [0, 2, 5])
        self.assertEqual(load_answer("part @ 00"), [0, 2, 5])
        self.assertEqual(load_answer(TINY + " @ @"), [0, 2, len(TINY) + 1])


if __name__ == "__main__":
    unittest.main()
