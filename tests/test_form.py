"""Promise 6, form: a formula's one form."""

import random
import unittest

from helper import (AGAIN, cell_count, cells, comparisons, define, form, loose_text, loose_words, run, size, some_tree,
                    step)
from model import form_of


def told(formula):
    """The form of a text, and a look at the count ahead of it."""
    answer = run(define(formula), form(0))[1]
    assert answer[0] == len(answer) - 1, answer
    return bytes(answer[1:]).decode("ascii")


class Form(unittest.TestCase):
    def check(self, *pairs):
        for formula, expected in pairs:
            self.assertEqual(told(formula), expected, formula)

    def test_as_answered(self):
        self.assertEqual(run(define("true"), form(0))[1], [4, 116, 114, 117, 101])
        self.assertEqual(run(define("x0\n<\n5\n"), form(0))[1], [6, 120, 48, 32, 60, 32, 53])

    def test_words_that_stay(self):
        for formula in ("true", "false", "not true", "prev false", "rose true", "x0 < 5", "x1 <= 5", "x2 = 5", "x3 != 5",
                        "x4 >= 5", "x5 > 5", "x6 = -1", "x7 = 1000000", "x0 = -1000000", "count 0 1 true",
                        "count 60 60 true", "once [ 0 , 0 ] true", "always [ 60 , 60 ] true", "once [ 1 , ] true",
                        "since [ 3 , 17 ] ( true , false )", "( true or false )", "( true and false )",
                        "not prev rose once [ 0 , ] always [ 2 , 3 ] count 1 2 since [ 0 , ] ( true , not true )"):
            self.check((formula, formula))

    def test_a_missing_window_is_told(self):
        self.check(("once true", "once [ 0 , ] true"), ("always x0 = 1", "always [ 0 , ] x0 = 1"),
                   ("since ( true , false )", "since [ 0 , ] ( true , false )"),
                   ("once once [ 0 , ] once true", "once [ 0 , ] once [ 0 , ] once [ 0 , ] true"),
                   ("since[5,](once true,always true)",
                    "since [ 5 , ] ( once [ 0 , ] true , always [ 0 , ] true )"))

    def test_brackets_around_or_and_and(self):
        self.check(("true or false", "( true or false )"), ("true and false", "( true and false )"),
                   ("x0 = 1 or x0 = 2 or x0 = 3", "( x0 = 1 or ( x0 = 2 or x0 = 3 ) )"),
                   ("x0 = 1 and x0 = 2 and x0 = 3", "( x0 = 1 and ( x0 = 2 and x0 = 3 ) )"),
                   ("( x0 = 1 or x0 = 2 ) or x0 = 3", "( ( x0 = 1 or x0 = 2 ) or x0 = 3 )"),
                   ("x0 = 1 or x0 = 2 and x0 = 3", "( x0 = 1 or ( x0 = 2 and x0 = 3 ) )"),
                   ("x0 = 1 and x0 = 2 or x0 = 3", "( ( x0 = 1 and x0 = 2 ) or x0 = 3 )"),
                   ("x0 = 1 and ( x0 = 2 or x0 = 3 )", "( x0 = 1 and ( x0 = 2 or x0 = 3 ) )"),
                   ("not ( true or false )", "not ( true or false )"),
                   ("not true or false", "( not true or false )"),
                   ("once ( true and false )", "once [ 0 , ] ( true and false )"),
                   ("count 1 2 ( true and prev ( true or true ) )", "count 1 2 ( true and prev ( true or true ) )"))

    def test_needless_brackets_are_gone(self):
        self.check(("( true )", "true"), ("( ( ( x0 < 5 ) ) )", "x0 < 5"), ("not ( true )", "not true"),
                   ("( ( true or false ) )", "( true or false )"), ("(not(prev(true)))", "not prev true"),
                   ("( true ) or ( false )", "( true or false )"),
                   ("since ( ( true ) , ( false ) )", "since [ 0 , ] ( true , false )"),
                   ("( since [ 1 , 2 ] ( true , false ) )", "since [ 1 , 2 ] ( true , false )"),
                   ("( x0 = 1 ) or ( ( x0 = 2 ) or ( x0 = 3 ) )", "( x0 = 1 or ( x0 = 2 or x0 = 3 ) )"),
                   ("( " * 40 + "true" + " )" * 40, "true"), ("count 1 2 ( true )", "count 1 2 true"))

    def test_brackets_within_since(self):
        self.check(("since ( true or false , false )", "since [ 0 , ] ( ( true or false ) , false )"),
                   ("since ( true , true and false )", "since [ 0 , ] ( true , ( true and false ) )"),
                   ("since ( ( true or false ) , true )", "since [ 0 , ] ( ( true or false ) , true )"),
                   ("since [ 1 , 2 ] ( true or false or true , true and false )",
                    "since [ 1 , 2 ] ( ( true or ( false or true ) ) , ( true and false ) )"),
                   ("since ( since ( true , false ) , true ) or true",
                    "( since [ 0 , ] ( since [ 0 , ] ( true , false ) , true ) or true )"))

    def test_numbers(self):
        self.check(("x0 < 0000005", "x0 < 5"), ("x0 < -0000005", "x0 < -5"), ("x0 = 000", "x0 = 0"), ("x0 = -0", "x0 = 0"),
                   ("x0 = -0000000", "x0 = 0"), ("x7 = 0000100", "x7 = 100"), ("x7 = -01", "x7 = -1"),
                   ("once [ 00 , 0000000 ] true", "once [ 0 , 0 ] true"), ("always [ 007 , 010 ] true", "always [ 7 , 10 ] true"),
                   ("once [ 0000060 , ] true", "once [ 60 , ] true"),
                   ("since [ 01 , 02 ] ( true , true )", "since [ 1 , 2 ] ( true , true )"),
                   ("count 00 01 true", "count 0 1 true"), ("count 0000007 060 true", "count 7 60 true"))

    def test_one_blank_between_words(self):
        self.check(("\n  x0   <\n\n5 \n", "x0 < 5"), ("since[1,2](x0 < 5,once[3,]true)",
                                                       "since [ 1 , 2 ] ( x0 < 5 , once [ 3 , ] true )"),
                   ("(true)and(false)", "( true and false )"))

    def test_refusals(self):
        found = run(form(0), form(7), form(8), form(-1), form(2 ** 63 - 1), form(-2 ** 63), define("true or"), form(0),
                    define("true"), form(0), form(1), form(7), form(8))
        self.assertEqual(found[:6], [[-3], [-3], [-1], [-1], [-1], [-1]])
        self.assertEqual(found[7:], [[-3], [0], [4, 116, 114, 117, 101], [-3], [-3], [-1]])

    def test_each_formula_its_own(self):
        found = run(*[define("x%d = %d" % (place, place)) for place in range(8)], *[form(place) for place in range(8)])
        self.assertEqual([bytes(row[1:]).decode() for row in found[8:]], ["x%d = %d" % (place, place) for place in range(8)])

    def test_steps_and_again_change_nothing(self):
        calls = [define("prev x0 = 1"), form(0), step(1), form(0), cells(0), form(0), AGAIN, form(0), step(1), form(0)]
        rows = run(*calls)[1::2]
        self.assertEqual(rows, [[11] + list(b"prev x0 = 1")] * 5)


class FormOfTheForm(unittest.TestCase):
    def check(self, formula):
        first = told(formula)
        if len(first) <= 600:
            self.assertEqual(told(first), first)
        return first

    def test_longer_than_other_texts(self):
        self.assertEqual(self.check("once " * 39 + "true"), "once [ 0 , ] " * 39 + "true")
        # A form of more bytes than a text may have is told all the same.
        expected = "always [ 0 , 60 ] " * 39 + "true"
        self.assertEqual(told("always[0,60]" * 39 + "true"), expected)
        self.assertEqual(run(define(expected)), [[-1]])

    def test_deepest(self):
        for formula in ("not " * 39 + "true", "true or " * 19 + "true", "not " * 18 + "( true and " * 9 + "false or true"
                        + " )" * 9, "( " * 39 + "true or false" + " )" * 39, "since(" * 19 + "true" + ",true)" * 19):
            self.check(formula)

    def test_many_formulas(self):
        chance = random.Random(11)
        looked_at = 0
        for number in range(1500):
            tree = some_tree(chance, chance.randint(0, 5))
            formula = loose_text(chance, tree)
            if size(tree) > 40 or cell_count(tree) > 100 or len(formula) > 600 or len(comparisons(tree)) > 16:
                continue
            self.assertEqual(told(formula), form_of(tree), formula)
            self.assertEqual(self.check(formula), form_of(tree))
            looked_at += 1
        self.assertGreater(looked_at, 1000)

    def test_all_texts_of_a_formula_have_one_form(self):
        chance = random.Random(12)
        tree = ("or", ("since", 0, None, ("and", ("true",), ("compare", 1, 2, 0)), ("count", 0, 7, ("false",))),
                ("once", 3, 12, ("not", ("compare", 7, 5, -40))))
        texts = [loose_text(chance, tree) for number in range(50)]
        self.assertGreater(len(set(texts)), 45)
        self.assertGreater(len(set(tuple(loose_words(chance, tree)) for number in range(50))), 45)
        self.assertEqual(set(told(formula) for formula in texts),
                         {"( since [ 0 , ] ( ( true and x1 = 0 ) , count 0 7 false ) or once [ 3 , 12 ] not x7 > -40 )"})


if __name__ == "__main__":
    unittest.main()
