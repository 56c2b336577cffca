"""Runs: how they end, what is done, said and entered, and promise 4."""

import unittest

from helper import FAR, WORKED, ask, chain, load, run, run_parts
from keepparts.grammar import read_program
from keepparts.runs import run_entry


class EndsWell(unittest.TestCase):
    def test_worked_program(self):
        self.assertEqual(run_parts(WORKED, 0, 0), (0, 7, [2, 2, 1], [0, 1, 2]))
        self.assertEqual(run_parts(WORKED, 0, 1), (0, 7, [2, 3, 1], [0, 1, 3, 4]))

    def test_nothing_to_do(self):
        self.assertEqual(run_parts("part a size 1 { } start a ;"), (0, 0, [], [0]))

    def test_goes_on_behind_a_call(self):
        text = "part a size 1 { say 1 ; call b ; say 3 ; } part b size 1 { say 2 ; } start a ;"
        self.assertEqual(run_parts(text), (0, 4, [1, 2, 3], [0, 1]))

    def test_entered_first_in_this_order(self):
        text = ("part a size 1 { } part b size 1 { call d ; call a ; call d ; call c ; } part c size 1 { call a ; } "
                "part d size 1 { } start c, b ;")
        self.assertEqual(run_parts(text, 1), (0, 5, [], [1, 3, 0, 2]))
        self.assertEqual(run_parts(text, 0), (0, 1, [], [2, 0]))

    def test_same_said_twice(self):
        self.assertEqual(run_parts("part a size 1 { say 7 ; say 7 ; } start a ;"), (0, 2, [7, 7], [0]))


class Makes(unittest.TestCase):
    def test_no_part_of_this_name(self):
        text = "set x : a, b ; part p size 1 { make x ; make p + x ; make q ; say 1 ; } start p ;"
        self.assertEqual(run_parts(text), (0, 4, [1], [0]))

    def test_one_to_three_pieces(self):
        text = ("set x : b, c ; part p size 1 { make a ; make a + x ; make a + x + a ; make x + x + x ; } "
                "part a size 1 { say 1 ; } part ab size 1 { say 2 ; } part aca size 1 { say 3 ; } "
                "part bbb size 1 { say 4 ; } start p ;")
        self.assertEqual(run_parts(text, 0, 0), (0, 7, [1, 2, 4], [0, 1, 2, 4]))
        self.assertEqual(run_parts(text, 0, 1), (0, 6, [1, 3], [0, 1, 3]))

    def test_just_this_name(self):
        text = ("part p size 1 { make a + b ; make A ; make b + a ; } part a size 1 { } part b size 1 { } "
                "part aB size 1 { } start p ;")
        self.assertEqual(run_parts(text), (0, 3, [], [0]))

    def test_a_name_longer_than_a_name_may_be(self):
        text = "part p size 1 { make aaaaaaaaaaaaaaaa + a ; say 5 ; } part a size 1 { } start p ;"
        self.assertEqual(run_parts(text), (0, 2, [5], [0]))

    def test_a_setting_stands_for_its_word_not_its_name(self):
        text = "set x : y ; part xy size 1 { } part yy size 1 { } part p size 1 { make x + x ; } start p ;"
        self.assertEqual(run_parts(text), (0, 1, [], [2, 1]))
        text = "set x : y ; set y : z ; part z size 1 { } part p size 1 { make x ; make y ; } start p ;"
        self.assertEqual(run_parts(text), (0, 2, [], [1, 0]))


class WhensAndAssignments(unittest.TestCase):
    def test_a_when_counts_though_its_word_is_another_one(self):
        text = "set x : a, b ; part p size 1 { when x is b { say 1 ; say 2 ; } say 3 ; } start p ;"
        self.assertEqual(run_parts(text, 0, 0), (0, 2, [3], [0]))
        self.assertEqual(run_parts(text, 0, 1), (0, 4, [1, 2, 3], [0]))

    def test_whens_within_one_another(self):
        text = ("set x : a, b ; set y : c, d ; part p size 1 { when x is b { say 1 ; when y is d { say 2 ; "
                "when x is b { say 3 ; } when x is a { say 4 ; } } say 5 ; } say 6 ; } start p ;")
        self.assertEqual(run_parts(text, 0, 0), (0, 2, [6], [0]))
        self.assertEqual(run_parts(text, 0, 1), (0, 5, [1, 5, 6], [0]))
        self.assertEqual(run_parts(text, 0, 2), (0, 2, [6], [0]))
        self.assertEqual(run_parts(text, 0, 3), (0, 9, [1, 2, 3, 5, 6], [0]))

    def says_its_words(self, settings):
        """A program that says, for each setting, the number of its word and 1 more."""
        text = ""
        whens = ""
        for number, length in enumerate(settings):
            words = [f"w{word}" for word in range(length)]
            text += f"set s{number} : {', '.join(words)} ; "
            whens += "".join(f"when s{number} is {word} {{ say {place} ; }} " for place, word in enumerate(words, 1))
        return text + f"part p size 1 {{ {whens} }} start p ;"

    def test_first_settings_words_change_fastest(self):
        text = self.says_its_words([3, 2])
        said = [run_parts(text, 0, number)[2] for number in range(6)]
        self.assertEqual(said, [[1, 1], [2, 1], [3, 1], [1, 2], [2, 2], [3, 2]])

    def test_three_settings(self):
        text = self.says_its_words([2, 4, 3])
        for number in range(24):
            wanted = [number % 2 + 1, number // 2 % 4 + 1, number // 8 + 1]
            self.assertEqual(run_parts(text, 0, number)[2], wanted)
        self.assertEqual(ask(load(text), run(0, 24))[1], [-3])

    def test_64_assignments(self):
        text = self.says_its_words([4, 4, 4])
        self.assertEqual(run_parts(text, 0, 63)[2], [4, 4, 4])
        self.assertEqual(run_parts(text, 0, 27)[2], [4, 3, 2])
        self.assertEqual(ask(load(text), run(0, 64))[1], [-3])


class TooLong(unittest.TestCase):
    def test_100_and_101_statements(self):
        for how_many, ending in ((99, 0), (100, 0), (101, 2), (150, 2)):
            done = min(how_many, 100)
            text = "part a size 1 { " + "say 1 ; " * how_many + "} start a ;"
            self.assertEqual(run_parts(text), (ending, done, [1] * done, [0]))

    def test_each_sort_of_statement_counts(self):
        for statement in ("call b ;", "make b ;", "make c ;", "when x is y { }", "when x is z { say 2 ; }"):
            for how_many, ending in ((100, 0), (101, 2)):
                text = ("set x : y, z ; part a size 1 { " + "say 1 ; " * (how_many - 1) + statement
                        + " } part b size 1 { } start a ;")
                told = run_parts(text)
                self.assertEqual(told[:3], (ending, 100, [1] * min(how_many - 1, 100)))
                self.assertEqual(told[3], [0, 1] if ending == 0 and " b" in statement else [0])

    def test_the_101st_in_a_part_and_in_a_when(self):
        text = "part a size 1 { " + "say 1 ; " * 99 + "call b ; } part b size 1 { say 2 ; } start a ;"
        self.assertEqual(run_parts(text), (2, 100, [1] * 99, [0, 1]))
        text = "set x : y ; part a size 1 { " + "say 1 ; " * 99 + "when x is y { say 2 ; } } start a ;"
        self.assertEqual(run_parts(text), (2, 100, [1] * 99, [0]))

    def test_nothing_more_is_done_behind_the_end(self):
        text = ("set x : y ; part a size 1 { call b ; say 9 ; call c ; } part b size 1 { when x is y { "
                + "say 1 ; " * 100 + "} say 8 ; } part c size 1 { } start a ;")
        self.assertEqual(run_parts(text), (2, 100, [1] * 98, [0, 1]))


class TooDeep(unittest.TestCase):
    def test_within_8_and_within_9_others(self):
        self.assertEqual(run_parts(chain(9, "say 1 ;") + "start p0 ;"), (0, 9, [1], list(range(9))))
        self.assertEqual(run_parts(chain(10, "say 1 ;") + "start p0 ;"), (1, 9, [], list(range(10))))

    def test_made_parts_are_as_deep(self):
        made = chain(9, "make p9 ;") + "part p9 size 1 { say 1 ; } start p0, p1 ;"
        self.assertEqual(run_parts(made, 0), (1, 9, [], list(range(10))))
        self.assertEqual(run_parts(made, 1), (0, 9, [1], list(range(1, 10))))

    def test_a_make_of_no_part_is_never_too_deep(self):
        self.assertEqual(run_parts(chain(9, "make p9 ; say 1 ;") + "start p0 ;"), (0, 10, [1], list(range(9))))

    def test_the_same_part_counted_each_time(self):
        self.assertEqual(run_parts("part a size 1 { say 4 ; call a ; } start a ;"), (1, 18, [4] * 9, [0]))
        text = "part a size 1 { make b ; } part b size 1 { say 2 ; call a ; } start b ;"
        self.assertEqual(run_parts(text), (1, 14, [2] * 5, [1, 0]))

    def test_whens_are_no_parts(self):
        text = ("set x : y ; part a size 1 { when x is y { when x is y { when x is y { call a ; } } } } start a ;")
        self.assertEqual(run_parts(text), (1, 36, [], [0]))

    def test_as_deep_behind_parts_that_are_done(self):
        text = chain(9, "call p0 ;").replace("{ call", "{ call q ; make q ; call") + "part q size 1 { } start p0 ;"
        self.assertEqual(run_parts(text), (1, 25, [], [0, 9, 1, 2, 3, 4, 5, 6, 7, 8]))

    def test_parts_one_behind_another_are_not_within(self):
        text = "part a size 1 { " + "call b ; " * 20 + "} part b size 1 { say 1 ; } start a ;"
        self.assertEqual(run_parts(text), (0, 40, [1] * 20, [0, 1]))

    def test_nothing_more_is_done_behind_the_end(self):
        text = chain(9, "call p9 ; say 1 ; call p9 ;").replace("} part p1", "say 2 ; } part p1", 1)
        self.assertEqual(run_parts(text + "part p9 size 1 { say 3 ; } start p0 ;"), (1, 9, [], list(range(10))))

    def test_too_long_comes_before_too_deep(self):
        for says, ending, done in ((91, 1, 100), (92, 2, 100), (90, 1, 99)):
            text = chain(9, "say 1 ; " * says + "call p9 ;") + "part p9 size 1 { } start p0 ;"
            told = run_parts(text)
            self.assertEqual(told[:2], (ending, done))
            self.assertEqual(told[3], list(range(10 if ending == 1 else 9)))


class Refused(unittest.TestCase):
    def test_no_entry(self):
        for entry in (1, 2, -1, FAR, -FAR):
            self.assertEqual(ask(load(WORKED), run(entry, 0))[1], [-2])

    def test_no_assignment(self):
        for assignment in (2, 3, -1, -2, FAR, -FAR):
            self.assertEqual(ask(load(WORKED), run(0, assignment))[1], [-3])

    def test_without_settings_there_is_one(self):
        text = "part a size 1 { } start a ;"
        self.assertEqual(ask(load(text), run(0, 0), run(0, 1), run(0, -1))[1:], [[0, 0, 0, 1, 0], [-3], [-3]])

    def test_in_their_order(self):
        self.assertEqual(ask(run(1, 9)), [[-1]])
        self.assertEqual(ask(run(FAR, -FAR)), [[-1]])
        for entry, assignment in ((1, 2), (-1, -1), (FAR, FAR), (-FAR, -FAR)):
            self.assertEqual(ask(load(WORKED), run(entry, assignment))[1], [-2])

    def test_an_entry_is_no_part(self):
        text = "part a size 1 { say 1 ; } part b size 1 { say 2 ; } start b ;"
        self.assertEqual(ask(load(text), run(0, 0), run(1, 0))[1:], [[0, 1, 1, 2, 1, 1], [-2]])


class LeftOut(unittest.TestCase):
    """Runs without some parts: what is done and entered, too, which keep does not tell."""

    def run_without(self, text, left_out, assignment=0):
        run_done = run_entry(read_program(list(text.encode())), 0, assignment, left_out)
        return run_done.ending, run_done.done, run_done.said, run_done.entered

    def test_none(self):
        self.assertEqual(self.run_without(WORKED, []), (0, 7, [2, 2, 1], [0, 1, 2]))

    def test_the_entry(self):
        self.assertEqual(self.run_without(WORKED, [0]), (3, 0, [], []))

    def test_a_called_part(self):
        self.assertEqual(self.run_without(WORKED, [1]), (3, 1, [], [0]))
        self.assertEqual(self.run_without(WORKED, [4], 1), (3, 6, [2, 3], [0, 1, 3]))
        self.assertEqual(self.run_without(WORKED, [4], 0), (0, 7, [2, 2, 1], [0, 1, 2]))

    def test_a_made_part(self):
        self.assertEqual(self.run_without(WORKED, [2]), (0, 5, [2, 1], [0, 1]))

    def test_within_9_others(self):
        called = chain(9, "call p9 ;") + "part p9 size 1 { } start p0 ;"
        self.assertEqual(self.run_without(called, [9]), (3, 9, [], list(range(9))))
        made = chain(9, "make p9 ; say 1 ;") + "part p9 size 1 { } start p0 ;"
        self.assertEqual(self.run_without(made, [9]), (0, 10, [1], list(range(9))))


if __name__ == "__main__":
    unittest.main()
