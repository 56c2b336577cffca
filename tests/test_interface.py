"""The worked program, and how calls are handed in and answered."""

import unittest

from helper import ALL, FAR, SHOWN, TINY, WORKED, as_bytes, ask, keep, load, made, part, reach, run
from keepparts.parts import answers


class Worked(unittest.TestCase):
    def test_worked_program(self):
        self.assertEqual(
            answers(load(WORKED) + run(0, 0) + run(0, 1) + reach(0)),
            [5, 1, 1, 6, 1, 2]
            + [10, 0, 7, 3, 2, 2, 1, 3, 0, 1, 2]
            + [11, 0, 7, 3, 2, 3, 1, 4, 0, 1, 3, 4]
            + [19, 1, 5, 0, 1, 2, 3, 4, 5, 0, 1, 2, 3, 4, 5, 0, 1, 2, 3, 4],
        )

    def test_worked_program_all_keep_made_and_part(self):
        self.assertEqual(
            answers(load(WORKED) + ALL + keep([0, 1, 2, 3, 4]) + keep([0, 1, 2, 3]) + keep([0, 1, 3, 4])
                    + made(0) + part(5)),
            [5, 1, 1, 6, 1, 2]
            + [22, 35, 26, 26, 26, 5, 0, 1, 2, 3, 4, 5, 0, 1, 2, 3, 4, 5, 0, 1, 2, 3, 4]
            + [2, 1, 26]
            + [5, 0, 0, 1, 0, 3]
            + [5, 0, 0, 0, 0, 0]
            + [4, 2, 2, 2, 3]
            + [5, 9, 3, 111, 108, 100],
        )

    def test_shown_is_told_with_how_many_bytes(self):
        form = "part a size 1 { }\nstart a ;\n"
        self.assertEqual(
            answers(load(TINY) + SHOWN),
            [5, 1, 0, 1, 1, 1, len(form) + 1, len(form)] + as_bytes(form),
        )

    def test_fault_and_refusals_as_numbers(self):
        self.assertEqual(answers(load("part")), [3, 0, 3, 4])
        self.assertEqual(answers(SHOWN), [1, -1])
        self.assertEqual(answers(load(TINY) + run(1, 0) + run(0, 1) + reach(1))[6:], [1, -2, 1, -3, 1, -2])


class SeveralCalls(unittest.TestCase):
    def test_every_call_but_load_is_refused_without_a_program(self):
        calls = (SHOWN, run(0, 0), run(-5, 7), reach(0), reach(FAR))
        self.assertEqual(ask(*calls), [[-1]] * 5)
        calls = (ALL, keep([]), keep([0]), keep([FAR, -1]), keep([-FAR] * 2000), made(0), made(-1), made(FAR),
                 part(0), part(-1), part(-FAR))
        self.assertEqual(ask(*calls), [[-1]] * 11)
        for call in calls:
            self.assertEqual(ask(call, load(TINY), call)[0], [-1])

    def test_still_refused_after_a_fault(self):
        told = ask(load(""), SHOWN, run(0, 0), reach(0), ALL, keep([9]), keep([]), made(9), part(0))
        self.assertEqual(told, [[0, 3, 0]] + [[-1]] * 8)

    def test_refused_first_then_answered(self):
        told = ask(SHOWN, load(TINY), run(0, 0))
        self.assertEqual(told, [[-1], [1, 0, 1, 1, 1], [0, 0, 0, 1, 0]])

    def test_second_load_replaces_the_first(self):
        other = "set x : p, q ; part b size 2 { say 9 ; } part a size 3 { call b ; } start b, a ;"
        told = ask(load(TINY), run(0, 0), reach(0), load(other), run(1, 1), reach(1), run(0, 2))
        self.assertEqual(told[1], [0, 0, 0, 1, 0])
        self.assertEqual(told[2], [1, 1, 0, 1, 0, 1, 0])
        self.assertEqual(told[3], [1, 1, 2, 2, 2])
        self.assertEqual(told[4], [0, 2, 1, 9, 2, 1, 0])
        self.assertEqual(told[5], [1, 2, 0, 1, 2, 0, 1, 2, 0, 1])
        self.assertEqual(told[6], [-3])
        told = ask(load(other), load(TINY), run(1, 0), SHOWN, reach(0))
        self.assertEqual(told[2], [-2])
        self.assertEqual(bytes(told[3][1:]), b"part a size 1 { }\nstart a ;\n")
        self.assertEqual(told[4], [1, 1, 0, 1, 0, 1, 0])

    def test_no_such_part(self):
        for wrong in (6, 7, -1, -6, FAR, -FAR):
            told = ask(load(WORKED), keep([wrong]), made(wrong), part(wrong))
            self.assertEqual(told[1:], [[-4]] * 3)

    def test_all_calls_mixed_with_a_second_load_and_a_fault(self):
        other = "set x : p, q ; part b size 2 { say 9 ; } part a size 3 { make b + x ; call b ; } start b, a ;"
        form = "set x : p, q ;\npart b size 2 { say 9 ; }\npart a size 3 { make b + x ; call b ; }\nstart b, a ;\n"
        told = ask(
            part(0), load(TINY), keep([0]), ALL, made(0), part(0), run(0, 0), reach(0), keep([1]),
            load(other), keep([0]), part(1), made(1), ALL, reach(0), SHOWN, run(1, 1), keep([1, 0, 1]), made(2),
            load("part a size 0"), keep([]), ALL, part(0), made(0), run(0, 2), reach(2), SHOWN, keep([2]), part(-1),
            load(TINY), ALL, part(1), keep([]), made(0),
        )
        self.assertEqual(told[:9], [[-1], [1, 0, 1, 1, 1], [1, 1], [1, 1, 1, 1, 1, 0, 1, 0, 1, 0], [0, 0],
                                    [1, 1, 97], [0, 0, 0, 1, 0], [1, 1, 0, 1, 0, 1, 0], [-4]])
        self.assertEqual(told[9:19], [[1, 1, 2, 2, 2], [0, 1, 0, 0, 3], [3, 1, 97], [2, 0],
                                      [5, 5, 5, 5, 2, 0, 1, 2, 0, 1, 2, 0, 1], [1, 1, 0, 1, 0, 1, 0],
                                      [len(form)] + as_bytes(form), [0, 3, 1, 9, 2, 1, 0], [1, 5], [-4]])
        self.assertEqual(told[19:29], [[0, 7, 12], [0, 0, 0, 0, 3], told[13], [2, 1, 98], [0, 0], [-3], [-2],
                                       told[15], [-4], [-4]])
        self.assertEqual(told[29:], [[1, 0, 1, 1, 1], told[3], [-4], [0, 0, 0, 0, 3], [0, 0]])

    def test_a_fault_changes_nothing(self):
        asked = (SHOWN, run(0, 0), run(0, 1), run(0, 2), reach(0), reach(1), ALL, keep([0, 1]), made(0), part(5))
        before = ask(load(WORKED), *asked)[1:]
        wrong = (
            " " * 4097, "@", "part part", "set a : p, q, r, s, t ;", "set a : p ; set a",
            "part a size 1 { } start a, a ;", "part a size 0", "part a size 1 { } start b ;",
            "part a size 1 { call b ; } start a ;",
        )
        for code, text in enumerate(wrong, 1):
            told = ask(load(WORKED), load(text), *asked)
            self.assertEqual(told[1][:2], [0, code])
            self.assertEqual(told[2:], before)

    def test_refusals_change_nothing(self):
        asked = (SHOWN, run(0, 1), reach(0), ALL, keep([0, 1, 2, 3]), keep([0, 1, 2, 3, 4]), made(0), part(5))
        before = ask(load(WORKED), *asked)[1:]
        told = ask(load(WORKED), run(1, 0), run(0, 2), reach(-1), keep([0, 6]), made(6), part(-1), *asked)
        self.assertEqual(told[1:7], [[-2], [-3], [-2], [-4], [-4], [-4]])
        self.assertEqual(told[7:], before)

    def test_a_keep_changes_no_later_answer(self):
        asked = (run(0, 0), run(0, 1), reach(0), ALL, made(0), keep([0, 1, 2, 3, 4]))
        before = ask(load(WORKED), *asked)[1:]
        self.assertEqual(ask(load(WORKED), keep([0]), keep([]), *asked, keep([1]), *asked)[3:9], before)
        self.assertEqual(ask(load(WORKED), keep([0]), keep([]), *asked, keep([1]), *asked)[10:], before)


class Handed(unittest.TestCase):
    def test_what_is_handed_in_stays(self):
        calls = load(WORKED) + SHOWN + run(0, 0) + reach(0) + load("part") + run(FAR, -FAR)
        calls += ALL + keep([4, 3, 3, 0]) + keep([]) + keep([0, FAR]) + made(0) + part(-FAR)
        copy = list(calls)
        answers(calls)
        self.assertEqual(calls, copy)

    def test_nothing_is_kept_from_one_time_to_the_next(self):
        calls = load(WORKED) + SHOWN + run(0, 0) + run(0, 1) + reach(0) + ALL + keep([0]) + made(0) + part(0)
        first = answers(calls)
        self.assertEqual(answers(SHOWN + reach(0) + ALL + keep([0]) + made(0) + part(0)), [1, -1] * 6)
        first_copy = list(first)
        first.append(5)
        self.assertEqual(answers(calls), first_copy)

    def test_only_whole_numbers_in_a_list(self):
        told = answers(SHOWN + load(WORKED) + SHOWN + run(0, 1) + reach(0) + reach(4) + load("+")
                       + ALL + keep([0, 1]) + keep([0, 1, 2, 3, 4]) + keep([-1]) + made(0) + part(0))
        self.assertIs(type(told), list)
        self.assertEqual({type(number) for number in told}, {int})


if __name__ == "__main__":
    unittest.main()
