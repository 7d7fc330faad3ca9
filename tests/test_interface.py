"""The interface: one list in, one list out, nothing kept and nothing changed."""

import unittest

import pastcells
from pastcells.watch import answers

from helper import AGAIN, NOW, alike, atom, cells, define, ever, facts, form, meaning, reading, run, step


class Interface(unittest.TestCase):
    def test_each_answer_has_its_length_ahead(self):
        calls = define("x0 > 1") + step(2) + NOW + meaning(0, 1) + cells(0) + facts(0) + define("true")
        told = [1, 0] + [2, 1, 1] + [3, 1, 1, 1] + [1, 1] + [1, 0] + [5, 1, 0, 0, 1, 3] + [1, -3]
        self.assertEqual(answers(calls), told)

    def test_each_answer_of_the_later_calls_too(self):
        calls = define("x0 > 1") + form(0) + atom(0) + alike(0, 0, 1) + ever(0, 1) + step(5) + reading(1) + AGAIN + NOW
        told = [1, 0] + [7, 6] + list(b"x0 > 1") + [3, 0, 5, 1] + [2, 1, 1] + [10, 0, 1, 2, 0, 0, 0, 0, 0, 0, 0]
        told += [2, 1, 1] + [9, 8, 5, 0, 0, 0, 0, 0, 0, 0] + [1, 0] + [3, 0, 1, 0]
        self.assertEqual(answers(calls), told)

    def test_one_call(self):
        self.assertEqual(answers([2]), [2, 0, 0])
        self.assertEqual(answers([0, 0]), [1, -1001])
        self.assertEqual(answers([1, 0, 0, 0, 0, 0, 0, 0, 0]), [1, 0])
        for call in (cells(0), facts(0), form(0), atom(0), alike(0, 0, 1), ever(0, 1), reading(1)):
            self.assertEqual(answers(call), [1, -3])
        self.assertEqual(answers([11]), [1, 0])

    def test_a_text_is_as_long_as_it_says(self):
        # The numbers of the text are those of calls.
        self.assertEqual(run([0, 3, 4, 5, 2], NOW), [[-1001], [0, 0]])
        self.assertEqual(run([0, 0], [0, 0], NOW), [[-1001], [-1001], [0, 0]])

    def test_the_list_handed_in_stays(self):
        calls = define("once [ 2 , 5 ] x0 = 1") + step(1) + step(2) + NOW + cells(0) + define([256]) + form(0) + atom(0)
        calls += alike(0, 0) + ever(0) + reading(1) + AGAIN + step(3) + reading(1)
        before = list(calls)
        answers(calls)
        self.assertEqual(calls, before)

    def test_twice_the_same(self):
        calls = define("prev x0 = 1") + step(1) + step(1) + NOW + cells(0) + facts(0) + meaning(0, 2) + ever(0) + form(0)
        calls += alike(0, 0) + atom(0) + reading(1) + AGAIN + define("true") + alike(0, 1)
        first = answers(calls)
        self.assertEqual(answers(calls), first)
        first.append(7)
        self.assertEqual(answers(calls), first[:-1])

    def test_every_list_has_a_new_object(self):
        answers(define("true") + step())
        self.assertEqual(run(NOW), [[0, 0]])
        self.assertEqual(run(define("x0 = 1")), [[0]])

    def test_four_hundred_calls(self):
        calls = [define("true")] + [step()] * 200 + [NOW] * 199
        found = run(*calls)
        self.assertEqual(found, [[0]] + [[1, 1]] * 200 + [[200, 1, 1]] * 199)

    def test_the_greatest_and_the_least_numbers(self):
        for number in (-2 ** 63, 2 ** 63 - 1):
            refused = run(step(number), meaning(number, 1), meaning(0, number), cells(number), facts(number),
                          define([number]), form(number), atom(number), alike(number, 0), alike(0, number),
                          alike(0, 0, number), ever(number), ever(0, number), reading(number), NOW)
            self.assertEqual(refused, [[-1]] * 14 + [[0, 0]])

    def test_the_package(self):
        self.assertTrue(pastcells.__doc__)


if __name__ == "__main__":
    unittest.main()
