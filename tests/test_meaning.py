"""Promise 3, meaning: what a formula means of the history from step 1 to step i."""

import random
import unittest

from helper import (NOW, Told, cell_count, cells, comparisons, define, meaning, run, size, some_history, some_tree,
                    step, text)


def meanings(formula, truths, second=None):
    """The meaning at each step, asked at the end, where x0 = 1 at a step just if truths has a 1 there (second: x1)."""
    second = second or "0" * len(truths)
    steps = [step(int(first_truth), int(second_truth)) for first_truth, second_truth in zip(truths, second)]
    asked = [meaning(0, i) for i in range(1, len(truths) + 1)]
    found = run(define(formula), *steps, *asked)[1 + len(steps):]
    assert all(len(row) == 1 for row in found)
    return "".join(str(row[0]) for row in found)


class Operators(unittest.TestCase):
    def check(self, formula, truths, expected, second=None):
        self.assertEqual(meanings(formula, truths, second), expected, formula)

    def test_the_step_alone(self):
        self.check("true", "010", "111")
        self.check("false", "010", "000")
        self.check("x0 = 1", "010", "010")
        self.check("not x0 = 1", "010", "101")
        self.check("x0 = 1 and x1 = 1", "0011", "0001", "0101")
        self.check("x0 = 1 or x1 = 1", "0011", "0111", "0101")

    def test_prev_and_rose(self):
        self.check("prev x0 = 1", "1101", "0110")
        self.check("prev true", "000", "011")
        self.check("not prev true", "000", "100")
        self.check("rose x0 = 1", "11010", "00010")
        self.check("rose not prev x0 = 1", "11010", "00010")

    def test_once(self):
        self.check("once x0 = 1", "00100", "00111")
        self.check("once [ 2 , ] x0 = 1", "0100000", "0001111")
        self.check("once [ 0 , 1 ] x0 = 1", "0100010", "0110011")
        self.check("once [ 2 , 3 ] x0 = 1", "1000100", "0011001")
        self.check("once [ 2 , 2 ] x0 = 1", "1101000", "0011010")
        self.check("once [ 5 , 6 ] true", "0000000", "0000011")

    def test_always(self):
        self.check("always x0 = 1", "11011", "11000")
        self.check("always [ 2 , ] x0 = 1", "011", "110")
        self.check("always [ 2 , ] x0 = 1", "1101111", "1111000")
        self.check("always [ 0 , 1 ] x0 = 1", "1101111", "1100111")
        self.check("always [ 2 , 3 ] x0 = 1", "1011111", "1110011")
        self.check("always [ 5 , 6 ] false", "0000000", "1111100")

    def test_since(self):
        self.check("since ( x0 = 1 , x1 = 1 )", "0111011", "1111000", "1000000")
        self.check("since ( x0 = 1 , x1 = 1 )", "0000", "0101", "0101")
        self.check("since [ 0 , 2 ] ( x0 = 1 , x1 = 1 )", "111111", "111000", "100000")
        self.check("since [ 1 , 2 ] ( x0 = 1 , x1 = 1 )", "111111", "011000", "100000")
        self.check("since [ 2 , 2 ] ( x0 = 1 , x1 = 1 )", "011011", "001001", "100100")
        self.check("since [ 2 , 2 ] ( x0 = 1 , x1 = 1 )", "011001", "001000", "100100")
        self.check("since [ 2 , ] ( x0 = 1 , x1 = 1 )", "0111101", "0011100", "1000000")
        self.check("since [ 1 , ] ( x0 = 1 , x1 = 1 )", "011", "011", "110")

    def test_count(self):
        self.check("count 2 3 x0 = 1", "110100", "011100")
        self.check("count 0 3 x0 = 1", "0000", "1111")
        self.check("count 1 1 x0 = 1", "0101", "0101")
        self.check("count 0 1 x0 = 1", "0101", "1111")
        self.check("count 3 60 x0 = 1", "101010", "000011")


class Refusals(unittest.TestCase):
    def test_ranges(self):
        found = run(define("true"), step(), meaning(-1, 1), meaning(8, 1), meaning(0, 0), meaning(0, 201),
                    meaning(0, -1), meaning(0, 1), meaning(0, 200))
        self.assertEqual(found[2:], [[-1]] * 5 + [[1], [-4]])

    def test_range_comes_before_the_others(self):
        self.assertEqual(run(meaning(7, 0), meaning(7, 201), meaning(8, 200), meaning(7, 200)), [[-1]] * 3 + [[-3]])

    def test_no_formula_comes_before_too_few_steps(self):
        found = run(meaning(0, 1), define("true"), meaning(0, 1), meaning(1, 1), step(), meaning(0, 1), meaning(0, 2),
                    meaning(1, 1), meaning(1, 2))
        self.assertEqual(found, [[-3], [0], [-4], [-3], [1, 1], [1], [-4], [-3], [-3]])

    def test_first_and_last_steps(self):
        steps = [step(number) for number in range(1, 201)]
        found = run(define("x0 = 1"), define("x0 = 200"), *steps, meaning(0, 1), meaning(0, 200), meaning(1, 1),
                    meaning(1, 200), meaning(0, 201), meaning(0, 0))
        self.assertEqual(found[202:], [[1], [0], [0], [1], [-1], [-1]])

    def test_asking_changes_nothing(self):
        found = run(define("prev x0 = 1"), step(1), step(0), meaning(0, 1), meaning(0, 2), meaning(0, 3), NOW, cells(0))
        self.assertEqual(found[3:], [[0], [1], [-4], [2, 1, 1], [1, 0]])


class Chance(unittest.TestCase):
    def test_what_step_answered_and_what_the_document_says(self):
        chance = random.Random(8)
        for number in range(700):
            tree = some_tree(chance, chance.randint(1, 5))
            if size(tree) > 40 or cell_count(tree) > 100 or len(text(tree)) > 600 or len(comparisons(tree)) > 16:
                continue
            history = some_history(chance, chance.choice((1, 2, 5, 12, 20)))
            asked = list(range(1, len(history) + 1))
            chance.shuffle(asked)
            found = run(define(text(tree)), *[step(*readings) for readings in history], *[meaning(0, i) for i in asked])
            answered = [row[1] for row in found[1:len(history) + 1]]
            told = Told(history)
            for i, row in zip(asked, found[len(history) + 1:]):
                self.assertEqual(row, [answered[i - 1]], (tree, history, i))
                self.assertEqual(row, [int(told.so(tree, i))], (tree, history, i))

    def test_long_histories(self):
        chance = random.Random(9)
        for formula in ("since [ 3 , 50 ] ( x0 < 3 , x1 = 3 )", "once [ 20 , 60 ] always [ 0 , 3 ] x0 = 1",
                        "count 20 60 x0 = 1", "since ( once [ 0 , 4 ] x0 = 3 , count 5 9 x1 = 0 )",
                        "always [ 2 , 50 ] not count 4 5 x0 = 0"):
            history = some_history(chance, 199)
            steps = [step(*readings) for readings in history]
            found = run(define(formula), *steps, *[meaning(0, i) for i in range(1, 200)])
            self.assertEqual([row[1:] for row in found[1:200]], found[200:])
            self.assertEqual(sorted(set(row[0] for row in found[200:])), [0, 1], formula)

    def test_a_step_means_the_same_whatever_comes_later(self):
        for later in range(4):
            found = run(define("since [ 1 , 3 ] ( x0 = 1 , x1 = 1 )"), step(0, 1), step(1), *[step(1)] * later,
                        meaning(0, 1), meaning(0, 2))
            self.assertEqual(found[-2:], [[0], [1]])


if __name__ == "__main__":
    unittest.main()
