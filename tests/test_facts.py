"""Promise 5, facts: size, cells, horizon, unlike comparisons, letters."""

import random
import unittest

from pastcells.letters import samples

import helper
from helper import LEAST, MOST, define, facts, run, some_tree, step, text


def told(formula):
    return run(define(formula), facts(0))[1]


class Facts(unittest.TestCase):
    def test_constants_and_comparisons(self):
        self.assertEqual(told("true"), [1, 0, 0, 0, 1])
        self.assertEqual(told("false"), [1, 0, 0, 0, 1])
        self.assertEqual(told("x3 >= -7"), [1, 0, 0, 1, 3])

    def test_size(self):
        for formula, size in (("not true", 2), ("true or true or true", 5), ("( ( true ) )", 1),
                              ("since ( true , x0 < 5 )", 3), ("count 1 5 once [ 1 , 2 ] always prev rose x0 < 5", 6),
                              ("not " * 39 + "true", 40), ("x0 < 5 and x0 < 5", 3)):
            self.assertEqual(told(formula)[0], size, formula)

    def test_cells(self):
        for formula, count in (("not ( true and false )", 0), ("prev true", 1), ("rose true", 1), ("once true", 1),
                               ("once [ 5 , 9 ] true", 6), ("always [ 0 , 9 ] true", 1), ("always [ 60 , ] true", 61),
                               ("since [ 2 , 3 ] ( prev true , rose once true )", 6), ("since ( true , true )", 1),
                               ("count 0 1 true", 0), ("count 1 60 true", 59), ("prev true or prev true", 2),
                               ("count 1 60 count 1 42 true", 100)):
            self.assertEqual(told(formula)[1], count, formula)

    def test_horizon(self):
        for formula, horizon in (("not x0 < 5", 0), ("prev x0 < 5", 1), ("rose prev x0 < 5", 2),
                                 ("once [ 2 , 7 ] prev x0 < 5", 8), ("always [ 7 , 7 ] true", 7),
                                 ("since [ 1 , 4 ] ( prev true , prev prev true )", 6),
                                 ("since [ 1 , 4 ] ( prev prev true , prev true )", 6), ("count 1 1 prev true", 1),
                                 ("count 0 60 true", 59), ("prev true or prev prev prev true", 3),
                                 ("prev prev prev true and prev true", 3), ("once true", -1), ("always [ 3 , ] true", -1),
                                 ("since ( true , true )", -1), ("prev once true", -1), ("true or once true", -1),
                                 ("once true or true", -1), ("since [ 0 , 3 ] ( true , once true )", -1),
                                 ("since [ 0 , 3 ] ( once true , true )", -1), ("once [ 0 , 3 ] always true", -1),
                                 ("count 1 60 not once true", -1), ("rose rose once true and true", -1),
                                 ("once [ 0 , 60 ] once [ 0 , 60 ] once [ 0 , 60 ] true", 180),
                                 ("once [ 0 , 0 ] true", 0)):
            self.assertEqual(told(formula)[2], horizon, formula)

    def test_unlike_comparisons(self):
        for formula, count in (("x0 < 5 or x0 < 5", 1), ("x0 < 5 or x0 < 05", 1), ("x0 < 5 or x0 <= 5", 2),
                               ("x0 < 5 or x1 < 5", 2), ("x0 < 5 or x0 < -5", 2), ("x0 < 0 or x0 < -0", 1),
                               ("since ( x0 = 1 , prev x0 = 1 ) or x0 = 2", 2)):
            self.assertEqual(told(formula)[3], count, formula)

    def test_letters(self):
        for formula, count in (("x0 < 5 or x0 >= 5", 3), ("x0 = 5 or x0 = 7", 5), ("x0 = 5 or x0 = 6", 4),
                               ("x0 = 5 or x0 = 6 or x0 = 7", 5), ("x0 = 5 or x0 = 6 or x0 = 8", 6),
                               ("x0 = 8 or x0 = 6 or x0 = 5", 6), ("x0 = 5 or x1 = 5", 9), ("x0 = -1 or x0 = 1", 5),
                               ("x0 = 1000000", 2), ("x0 = -1000000", 2), ("x0 = 1000000 or x0 = -1000000", 3),
                               ("x0 = 999999", 3), ("x0 = -999999", 3), ("x0 = 999999 or x0 = 1000000", 3),
                               ("x0 = -999999 or x0 = -1000000", 3), ("x0 = -999998 or x0 = -1000000", 4),
                               ("x7 = 1 or x3 = 1 or x5 = 1000000", 18)):
            self.assertEqual(told(formula)[4], count, formula)

    def test_samples(self):
        for numbers, expected in (([], [0]), ([5], [4, 5, 6]), ([7, 5], [4, 5, 6, 7, 8]), ([5, 6], [4, 5, 6, 7]),
                                  ([9, 5, 9], [4, 5, 6, 9, 10]), ([LEAST], [LEAST, LEAST + 1]), ([MOST], [MOST - 1, MOST]),
                                  ([MOST, LEAST], [LEAST, LEAST + 1, MOST]), ([-1, 0, 1], [-2, -1, 0, 1, 2])):
            compared = [(4, place % 6, number) for place, number in enumerate(numbers)]
            self.assertEqual(samples(4, compared + [(3, 0, 77), (5, 0, 78)]), expected)

    def test_very_many_letters(self):
        formula = " or ".join("x%d = %d" % (reading, number) for reading in range(8) for number in (3, 9))
        self.assertEqual(told(formula), [31, 0, 0, 16, 5 ** 8])
        row = " and ".join("x4 != %d" % (3 * number) for number in range(16))
        self.assertEqual(told(row), [31, 0, 0, 16, 33])

    def test_its_own_comparisons_alone(self):
        found = run(define("x0 = 1 or x1 = 1"), define("x0 = 1"), define("true"), facts(0), facts(1), facts(2))
        self.assertEqual(found[3:], [[3, 0, 0, 2, 9], [1, 0, 0, 1, 3], [1, 0, 0, 0, 1]])

    def test_steps_change_nothing(self):
        found = run(define("prev x0 = 1"), facts(0), step(1), facts(0), step(0), facts(0))
        self.assertEqual(found[1::2], [[2, 1, 1, 1, 3]] * 3)

    def test_refusals(self):
        found = run(facts(0), facts(7), facts(8), facts(-1), define("true"), facts(0), facts(1))
        self.assertEqual(found, [[-3], [-3], [-1], [-1], [0], [1, 0, 0, 0, 1], [-3]])

    def test_many_formulas(self):
        chance = random.Random(10)
        for number in range(1500):
            tree = some_tree(chance, chance.randint(0, 5))
            size, count, unlike = helper.size(tree), helper.cell_count(tree), len(helper.comparisons(tree))
            if size > 40 or count > 100 or len(text(tree)) > 600 or unlike > 16:
                continue
            horizon = helper.horizon(tree)
            expected = [size, count, -1 if horizon is None else horizon, unlike, helper.letter_count(tree)]
            self.assertEqual(told(text(tree)), expected, tree)


if __name__ == "__main__":
    unittest.main()
