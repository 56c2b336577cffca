"""The one form: just its bytes, and promise 5."""

import unittest

from helper import SHOWN, WORKED, ask, load, reach, run, shown


class OneForm(unittest.TestCase):
    def same(self, text):
        """A text in the one form is shown as it is."""
        self.assertEqual(shown(text), text)

    def test_worked_program(self):
        self.assertEqual(
            shown(WORKED),
            "set os : lin, win ;\n"
            "part main size 2 { call io ; make draw + os ; when os is win { call fix ; } say 1 ; }\n"
            "part io size 5 { say 2 ; }\n"
            "part drawlin size 7 { call io ; }\n"
            "part drawwin size 8 { say 3 ; }\n"
            "part fix size 4 { }\n"
            "part old size 9 { call fix ; }\n"
            "start main ;\n",
        )

    def test_without_settings_and_with_empty_brackets(self):
        self.assertEqual(shown("part a size 1{}start a;"), "part a size 1 { }\nstart a ;\n")

    def test_several_settings_and_words(self):
        self.assertEqual(
            shown("set x:a;set y:b,c,d , e;set z : x\n,y;part p size 99{}start p;"),
            "set x : a ;\nset y : b, c, d, e ;\nset z : x, y ;\npart p size 99 { }\nstart p ;\n",
        )

    def test_each_statement(self):
        self.same("part a size 1 { say 1 ; }\nstart a ;\n")
        self.same("part a size 1 { say 99 ; say 10 ; }\nstart a ;\n")
        self.same("part a size 1 { call b ; }\npart b size 2 { call a ; }\nstart a ;\n")
        self.same("part a size 1 { make a ; make b + a ; make a + b + c ; }\nstart a ;\n")
        self.same("set x : y ;\npart a size 1 { make x ; make x + x + x ; when x is y { } }\nstart a ;\n")

    def test_whens_within_one_another(self):
        self.same(
            "set x : a, b ;\nset y : c ;\n"
            "part p size 5 { when x is a { } when x is b { say 1 ; when y is c { when x is a { call q ; } say 2 ; } } "
            "say 3 ; }\n"
            "part q size 1 { when y is c { when y is c { } when y is c { make a ; } } }\n"
            "start p ;\n"
        )

    def test_several_entries_in_their_order(self):
        self.same("part a size 1 { }\npart b size 1 { }\npart c size 1 { }\npart d size 1 { }\nstart d, a, c, b ;\n")

    def test_parts_in_their_order(self):
        self.same("part z size 1 { call m ; }\npart a size 1 { }\npart m size 1 { }\nstart m ;\n")

    def test_remarks_are_not_shown(self):
        self.assertEqual(shown("#a\npart#b\na size 1{#c\n}start a;#d"), "part a size 1 { }\nstart a ;\n")

    def test_longer_than_4096_bytes(self):
        text = "part a size 1{" + "say 1;" * 678 + "}start a;"
        self.assertLessEqual(len(text), 4096)
        form = shown(text)
        self.assertEqual(form, "part a size 1 { " + "say 1 ; " * 678 + "}\nstart a ;\n")
        self.assertEqual(ask(load(form))[0], [0, 1, 4096])


class ReadAgain(unittest.TestCase):
    def test_what_is_shown_is_the_same_program(self):
        texts = (
            WORKED,
            "set x:a,b;set y:c,d;part p size 1{when x is a{make p+y;when y is d{say 3;}}call q;}"
            "part pc size 2{say 1;}part pd size 3{}part q size 4{make x;}part b size 5{call pd;}start q,p;",
        )
        for text in texts:
            asked = [SHOWN, reach(0), reach(1)]
            asked.extend(run(entry, number) for entry in range(2) for number in range(4))
            before = ask(load(text), *asked)
            self.assertEqual(ask(load(shown(text)), *asked), before)


if __name__ == "__main__":
    unittest.main()
