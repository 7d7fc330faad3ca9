"""Promises 1, 2 and 4, step, now and cells: the watchers' truths and cells, step by step."""

import random
import unittest

from helper import (LEAST, MOST, NOW, Told, cell_count, cells, comparisons, define, run, size, some_history, some_tree,
                    step, text)


def watched(formula, truths, second=None):
    """The formula's truth and cells after each step, where x0 = 1 at a step just if truths has a 1 there.

    second is the same for x1.
    """
    second = second or "0" * len(truths)
    calls = [define(formula)]
    for first_truth, second_truth in zip(truths, second):
        calls += [step(int(first_truth), int(second_truth)), cells(0)]
    found = run(*calls)[1:]
    assert all(len(row) == 2 and row[0] == 1 for row in found[::2])
    assert all(row[0] == len(row) - 1 for row in found[1::2])
    return "".join(str(row[1]) for row in found[::2]), [row[1:] for row in found[1::2]]


class Operators(unittest.TestCase):
    def check(self, formula, truths, expected, rows, second=None):
        """rows: the cells after each step, each a text of digits."""
        found = watched(formula, truths, second)
        self.assertEqual(found[0], expected, formula)
        self.assertEqual(found[1], [[int(digit) for digit in row] for row in rows.split()], formula)

    def check_truths(self, formula, truths, expected):
        found = watched(formula, truths)
        self.assertEqual(found, (expected, [[]] * len(truths)))

    def test_without_cells(self):
        self.check_truths("true", "0101", "1111")
        self.check_truths("false", "0101", "0000")
        self.check_truths("x0 = 1", "0101", "0101")
        self.check_truths("not x0 = 1", "0101", "1010")
        self.check_truths("x0 = 1 and x1 = 0", "0101", "0101")
        self.check_truths("x0 = 1 and x1 = 1", "0101", "0000")
        self.check_truths("x0 = 1 or x1 = 0", "0101", "1111")
        self.check_truths("x0 = 1 or x1 = 1", "0101", "0101")

    def test_prev(self):
        self.check("prev x0 = 1", "110100", "011010", "1 1 0 1 0 0")
        self.check("prev true", "00", "01", "1 1")
        self.check("prev prev x0 = 1", "110100", "001101", "01 11 10 01 10 00")

    def test_rose(self):
        self.check("rose x0 = 1", "110101", "000101", "2 2 1 2 1 2")
        self.check("rose x0 = 1", "0110", "0100", "1 2 2 1")
        self.check("rose not x0 = 1", "0110", "0001", "2 1 1 2")

    def test_once_without_an_end(self):
        self.check("once x0 = 1", "00100", "00111", "0 0 1 1 1")
        self.check("once [ 2 , ] x0 = 1", "0100100", "0001111", "000 100 010 001 101 011 001")

    def test_once_to_an_end(self):
        self.check("once [ 0 , 2 ] x0 = 1", "0100001100", "0111001111", "0 1 2 3 0 0 1 1 2 3")
        self.check("once [ 0 , 0 ] x0 = 1", "01001", "01001", "0 1 0 0 1")
        self.check("once [ 1 , 3 ] x0 = 1", "100000", "011100", "10 01 02 03 00 00")
        self.check("once [ 2 , 2 ] x0 = 1", "101100", "001011", "100 010 101 110 011 001")
        self.check("once [ 1 , 2 ] x0 = 1", "1010000", "0111100", "10 01 12 01 02 00 00")

    def test_always_without_an_end(self):
        self.check("always x0 = 1", "11011", "11000", "0 0 1 1 1")
        self.check("always [ 1 , ] x0 = 1", "110111", "111000", "00 00 10 01 01 01")

    def test_always_to_an_end(self):
        self.check("always [ 0 , 2 ] x0 = 1", "1101111", "1100011", "0 0 1 2 3 0 0")
        self.check("always [ 0 , 0 ] x0 = 1", "0110", "0110", "1 0 0 1")
        self.check("always [ 1 , 2 ] x0 = 1", "010111", "100001", "10 01 12 01 02 00")
        self.check("always [ 3 , 3 ] x0 = 1", "000000", "111000", "1000 1100 1110 1111 1111 1111")

    def test_since_without_an_end(self):
        self.check("since ( x0 = 1 , x1 = 1 )", "001111011", "011111000", "0 1 1 1 1 1 0 0 0", "010000000")
        self.check("since ( x0 = 1 , x1 = 1 )", "001110", "011110", "0 1 1 1 1 0", "010000")
        self.check("since ( x0 = 1 , x1 = 1 )", "000", "111", "1 1 1", "111")
        self.check("since ( x0 = 1 , x1 = 1 )", "111", "000", "0 0 0", "000")

    def test_since_to_an_end(self):
        self.check("since [ 0 , 2 ] ( x0 = 1 , x1 = 1 )", "0111111", "1110111", "1 2 3 0 1 2 3", "1000100")
        self.check("since [ 0 , 0 ] ( x0 = 1 , x1 = 1 )", "0101", "0011", "0 0 1 1", "0011")

    def test_since_from_earlier(self):
        self.check("since [ 1 , 2 ] ( x0 = 1 , x1 = 1 )", "0111101", "0110001", "10 01 02 00 00 10 01", "1000010")
        self.check("since [ 2 , ] ( x0 = 1 , x1 = 1 )", "0111101", "0011100", "100 010 001 001 001 000 000", "1000000")
        self.check("since [ 2 , 2 ] ( x0 = 1 , x1 = 1 )", "1111011", "0011001", "100 110 011 001 100 010 001", "1100100")
        # The first part has to be so behind that step, not at it.
        self.check("since [ 1 , 1 ] ( x0 = 1 , x1 = 1 )", "01", "01", "10 01", "10")
        self.check("since [ 1 , 1 ] ( x0 = 1 , x1 = 1 )", "10", "00", "10 00", "10")

    def test_count(self):
        self.check("count 2 3 x0 = 1", "1101000", "0111000", "10 11 01 10 01 00 00")
        self.check("count 1 3 x0 = 1", "100010", "111011", "10 01 00 00 10 01")
        self.check("count 3 3 x0 = 1", "1111011", "0011000", "10 11 11 11 01 10 11")
        self.check("count 0 3 x0 = 1", "000", "111", "00 00 00")

    def test_count_of_one_step(self):
        self.check_truths("count 1 1 x0 = 1", "0110", "0110")
        self.check_truths("count 0 1 x0 = 1", "0110", "1111")

    def test_count_of_sixty_steps(self):
        found = watched("count 60 60 x0 = 1", "1" * 61 + "0" + "1" * 60)
        self.assertEqual(found[0], "0" * 59 + "11" + "0" * 60 + "1")
        self.assertEqual(found[1][0], [1] + [0] * 58)
        self.assertEqual(found[1][-1], [1] * 59)

    def test_once_sixty_steps_ago(self):
        found = watched("once [ 60 , 60 ] x0 = 1", "1" + "0" * 69)
        self.assertEqual(found[0], "0" * 60 + "1" + "0" * 9)
        self.assertEqual(found[1][59], [0] * 59 + [1, 0])
        self.assertEqual(found[1][60], [0] * 60 + [1])
        found = watched("once [ 0 , 60 ] x0 = 1", "1" + "0" * 69)
        self.assertEqual(found[0], "1" * 61 + "0" * 9)
        self.assertEqual(found[1][:62], [[number] for number in list(range(1, 62)) + [0]])


class CellsInOrder(unittest.TestCase):
    def test_order_of_the_text(self):
        formula = "prev x0 = 1 or since [ 1 , 4 ] ( once [ 0 , 5 ] x0 = 1 , rose x0 = 1 ) and count 1 3 x0 = 1"
        found = watched(formula, "0100")
        # prev; since's two; once; rose; count's two
        self.assertEqual(found[1], [[0, 0, 0, 0, 1, 0, 0], [1, 1, 0, 1, 2, 1, 0], [0, 0, 1, 2, 1, 0, 1],
                                    [0, 0, 2, 3, 1, 0, 0]])

    def test_own_cells_come_first(self):
        found = watched("once [ 1 , ] count 1 2 rose x0 = 1", "01")
        self.assertEqual(found[1], [[0, 0, 0, 1], [1, 0, 1, 2]])

    def test_rows_of_or_and_and(self):
        found = watched("prev false or prev true or ( prev false and rose true ) and once true", "0")
        self.assertEqual(found[1], [[0, 1, 0, 2, 1]])

    def test_zero_before_the_first_step(self):
        found = run(define("rose true and count 1 4 always [ 2 , 3 ] prev true"), cells(0))
        self.assertEqual(found[1], [8] + [0] * 8)

    def test_no_cells(self):
        self.assertEqual(run(define("x0 = 1 and not true"), cells(0), step(), cells(0)), [[0], [0], [1, 0], [0]])

    def test_refusals(self):
        found = run(cells(0), cells(7), cells(8), cells(-1), define("true"), cells(0), cells(1))
        self.assertEqual(found, [[-3], [-3], [-1], [-1], [0], [0], [-3]])

    def test_asking_changes_nothing(self):
        calls = [define("prev x0 = 1"), step(1), cells(0), cells(0), NOW, cells(0), step(0), cells(0)]
        self.assertEqual(run(*calls)[2:], [[1, 1], [1, 1], [1, 1, 0], [1, 1], [1, 1], [1, 0]])


class StepAndNow(unittest.TestCase):
    def test_every_formula_in_order(self):
        found = run(define("x0 = 1"), define("prev x0 = 1"), define("not x0 = 1"), NOW, step(1), NOW, step(2), NOW)
        self.assertEqual(found[3:], [[0, 3, 0, 0, 0], [3, 1, 0, 0], [1, 3, 1, 0, 0], [3, 0, 1, 1], [2, 3, 0, 1, 1]])

    def test_no_formulas(self):
        self.assertEqual(run(NOW, step(), NOW, step(), NOW), [[0, 0], [0], [1, 0], [0], [2, 0]])

    def test_now_before_the_first_step(self):
        self.assertEqual(run(define("true"), define("always true"), NOW)[2], [0, 2, 0, 0])

    def test_all_eight_readings(self):
        for reading in range(8):
            readings = [9] * 8
            readings[reading] = -4
            found = run(*[define("x%d = -4" % other) for other in range(8)], step(*readings))
            self.assertEqual(found[8], [8] + [int(other == reading) for other in range(8)])

    def test_comparisons(self):
        for number in (-5, 0, 5):
            formulas = [define("x2 %s %d" % (op, number)) for op in ("<", "<=", "=", "!=", ">=", ">")]
            found = run(*formulas, *[step(0, 0, number + d) for d in (-1, 0, 1)])
            self.assertEqual(found[6:], [[6, 1, 1, 0, 1, 0, 0], [6, 0, 1, 1, 0, 1, 0], [6, 0, 0, 0, 1, 1, 1]])

    def test_numbers_with_zeros_in_front(self):
        found = run(define("x0 = 0000012"), define("x0 = -012"), define("count 001 0002 x0 = 12"), step(12), step(-12))
        self.assertEqual(found[3:], [[3, 1, 0, 1], [3, 0, 1, 1]])

    def test_greatest_and_least_readings(self):
        found = run(define("x0 = 1000000"), define("x7 = -1000000"), define("x0 > 999999"), define("x7 < -1000000"),
                    step(MOST, 0, 0, 0, 0, 0, 0, LEAST), step(MOST - 1, 0, 0, 0, 0, 0, 0, LEAST + 1))
        self.assertEqual(found[4:], [[4, 1, 1, 1, 0], [4, 0, 0, 0, 0]])

    def test_readings_out_of_range(self):
        for reading in range(8):
            for value in (LEAST - 1, MOST + 1):
                readings = [0] * 8
                readings[reading] = value
                found = run(define("prev true"), step(*readings), NOW, cells(0), step(), NOW)
                self.assertEqual(found[1:], [[-1], [0, 1, 0], [1, 0], [1, 0], [1, 1, 0]])
            for value in (LEAST, MOST):
                readings = [0] * 8
                readings[reading] = value
                self.assertEqual(run(step(*readings)), [[0]])

    def test_two_hundred_steps(self):
        calls = [define("rose x0 = 1")] + [step(number % 2) for number in range(200)] + [NOW, step(0), NOW, cells(0)]
        found = run(*calls)
        self.assertEqual(found[1:201], [[1, number % 2] for number in range(200)])
        self.assertEqual(found[201:], [[200, 1, 1], [-3], [200, 1, 1], [1, 2]])

    def test_range_comes_before_two_hundred_steps(self):
        found = run(*[step()] * 200, step(MOST + 1), step(0))
        self.assertEqual(found[200:], [[-1], [-3]])


class Chance(unittest.TestCase):
    """The truths and cells of many formulas over many histories."""

    def some_formula(self, chance):
        while True:
            tree = some_tree(chance, chance.randint(1, 4))
            if size(tree) <= 40 and cell_count(tree) <= 100 and len(text(tree)) <= 600 and len(comparisons(tree)) <= 5:
                return tree

    def test_against_the_meaning(self):
        chance = random.Random(6)
        for number in range(400):
            trees = [self.some_formula(chance) for place in range(3)]
            history = some_history(chance, 14)
            self.compare(trees, history)

    def test_over_long_histories(self):
        chance = random.Random(7)
        for number in range(6):
            trees = [self.some_formula(chance) for place in range(3)]
            self.compare(trees, some_history(chance, 90))

    def compare(self, trees, history):
        calls = [define(text(tree)) for tree in trees]
        asked = [cells(place) for place in range(len(trees))]
        calls += asked
        for readings in history:
            calls += [step(*readings)] + asked
        found = run(*calls)[len(trees):]
        told = Told(history)
        for done in range(len(history) + 1):
            if done > 0:
                truths = [int(told.so(tree, done)) for tree in trees]
                self.assertEqual(found.pop(0), [len(trees)] + truths, (trees, history[:done]))
            for tree in trees:
                row = told.cells(tree, done)
                self.assertEqual(found.pop(0), [len(row)] + row, (tree, history[:done]))
        self.assertEqual(found, [])


if __name__ == "__main__":
    unittest.main()
