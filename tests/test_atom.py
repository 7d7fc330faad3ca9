"""Promise 7, atom: the comparisons of all formulas, and their numbers."""

import unittest

from helper import AGAIN, OPERATORS, atom, define, run, step


def atoms(*texts):
    """Of each text what define answers, and all comparisons afterwards."""
    found = run(*[define(text) for text in texts], *[atom(i) for i in range(16)])
    rows = found[len(texts):]
    there = [row for row in rows if row != [-3]]
    assert rows == there + [[-3]] * (16 - len(there)), rows
    return [row[0] for row in found[:len(texts)]], there


class Atom(unittest.TestCase):
    def test_reading_operator_number(self):
        for operator, word in enumerate(OPERATORS):
            self.assertEqual(atoms("x%d %s %d" % (operator + 2, word, operator - 3)),
                             ([0], [[operator + 2, operator, operator - 3]]))
        self.assertEqual(atoms("x0 = 1000000", "x7 = -1000000"), ([0, 1], [[0, 2, 1000000], [7, 2, -1000000]]))

    def test_in_the_order_of_the_text(self):
        formula = "since ( x3 < 1 or once x2 < 1 , x1 < 1 and not ( x0 < 1 ) ) or x4 < 1 or count 1 2 x5 < 1 and x6 < 1"
        self.assertEqual(atoms(formula), ([0], [[place, 0, 1] for place in (3, 2, 1, 0, 4, 5, 6)]))

    def test_each_unlike_one_once(self):
        self.assertEqual(atoms("x0 < 5 or x1 < 5 or x0 < 5 or x0 <= 5 or x0 < 6 or x1 < 05"),
                         ([0], [[0, 0, 5], [1, 0, 5], [0, 1, 5], [0, 0, 6]]))

    def test_over_several_formulas(self):
        found = atoms("x1 = 1 and x0 = 1", "true", "x2 = 1 or x0 = 1 or x1 != 1", "x0 = 1", "x1 != 1 and x3 = 1")
        self.assertEqual(found, ([0, 1, 2, 3, 4], [[1, 2, 1], [0, 2, 1], [2, 2, 1], [1, 3, 1], [3, 2, 1]]))

    def test_minus_zero_and_zero_are_alike(self):
        self.assertEqual(atoms("x0 = -0 or x0 = 0", "x0 = 000", "x0 = -0000000"), ([0, 1, 2], [[0, 2, 0]]))

    def test_a_refused_define_puts_none_there(self):
        many = " or ".join("x5 = %d" % number for number in range(16))
        large = " or ".join("x5 = 1" for number in range(21))
        found = atoms("x0 = 1", "x1 = 1 or", "x2 = 1 )", large, "count 1 60 count 1 60 x3 = 1", many, "x4 = 1 \t", "x6 = 1")
        self.assertEqual(found, ([0, -1005, -1004, -5, -5, -6, -1004, 1], [[0, 2, 1], [6, 2, 1]]))

    def test_sixteen(self):
        numbers = list(range(10, 26))
        whole = " or ".join("x0 < %d" % number for number in numbers)
        self.assertEqual(atoms(whole), ([0], [[0, 0, number] for number in numbers]))
        found = run(define(whole), atom(0), atom(15), atom(16), atom(-1))
        self.assertEqual(found[1:], [[0, 0, 10], [0, 0, 25], [-1], [-1]])

    def test_refusals(self):
        found = run(atom(-1), atom(0), atom(15), atom(16), atom(-2 ** 63), atom(2 ** 63 - 1), define("x0 = 1"), atom(-1),
                    atom(0), atom(1), atom(15), atom(16))
        self.assertEqual(found[:6], [[-1], [-3], [-3], [-1], [-1], [-1]])
        self.assertEqual(found[7:], [[-1], [0, 2, 1], [-3], [-3], [-1]])

    def test_no_comparisons(self):
        self.assertEqual(run(define("true"), atom(0)), [[0], [-3]])

    def test_steps_and_again_change_nothing(self):
        found = run(define("x0 = 1"), step(5), atom(0), AGAIN, atom(0), define("x1 = 1 or x0 = 1"), atom(0), atom(1),
                    atom(2))
        self.assertEqual(found[2:], [[0, 2, 1], [0], [0, 2, 1], [1], [0, 2, 1], [1, 2, 1], [-3]])


if __name__ == "__main__":
    unittest.main()
