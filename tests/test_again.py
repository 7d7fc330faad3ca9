"""Promises 10 and 11, reading and again: the steps' own readings, and a new beginning with the same formulas."""

import random
import unittest

from helper import (AGAIN, LEAST, MOST, NOW, atom, cells, define, facts, form, meaning, reading, run, some_history,
                    step)


class Reading(unittest.TestCase):
    def test_the_first_step_the_last_and_one_beyond(self):
        found = run(step(1, 2, 3, 4, 5, 6, 7, 8), step(9), step(0, 0, 0, 0, 0, 0, 0, -5), reading(1), reading(2), reading(3),
                    reading(4), reading(200))
        self.assertEqual(found[3:], [[8, 1, 2, 3, 4, 5, 6, 7, 8], [8, 9, 0, 0, 0, 0, 0, 0, 0],
                                     [8, 0, 0, 0, 0, 0, 0, 0, -5], [-3], [-3]])

    def test_ranges(self):
        refused = [reading(i) for i in (0, 201, -1, 2 ** 63 - 1, -2 ** 63)]
        for steps in (0, 1, 200):
            self.assertEqual(run(*[step()] * steps, *refused)[steps:], [[-1]] * 5)
        self.assertEqual(run(reading(1), reading(200)), [[-3], [-3]])

    def test_all_two_hundred(self):
        history = some_history(random.Random(17), 200)
        found = run(*[step(*readings) for readings in history[:199]], *[reading(i) for i in range(1, 202)])
        self.assertEqual(found[199:398], [[8] + readings for readings in history[:199]])
        self.assertEqual(found[398:], [[-3], [-1]])
        found = run(*[step(*readings) for readings in history], reading(200), reading(1))
        self.assertEqual(found[200:], [[8] + history[199], [8] + history[0]])

    def test_the_greatest_and_the_least(self):
        readings = [LEAST, MOST] * 4
        self.assertEqual(run(step(*readings), reading(1))[1], [8] + readings)

    def test_a_refused_step_is_not_read(self):
        self.assertEqual(run(step(1), step(MOST + 1), step(2), reading(2), reading(3))[3:], [[8, 2] + [0] * 7, [-3]])

    def test_asking_changes_nothing(self):
        found = run(define("prev x0 = 1"), step(1), reading(1), reading(1), reading(2), NOW, cells(0), step(0), reading(1))
        self.assertEqual(found[2:], [[8, 1] + [0] * 7, [8, 1] + [0] * 7, [-3], [1, 1, 0], [1, 1], [1, 1], [8, 1] + [0] * 7])

    def test_behind_again(self):
        found = run(step(1), step(2), AGAIN, reading(1), reading(2), reading(0), step(3), reading(1), reading(2))
        self.assertEqual(found[3:], [[-3], [-3], [-1], [0], [8, 3] + [0] * 7, [-3]])


class Again(unittest.TestCase):
    def test_answers_0(self):
        self.assertEqual(run(AGAIN, AGAIN, step(), AGAIN, define("true"), AGAIN), [[0], [0], [0], [0], [0], [0]])

    def test_on_a_new_object(self):
        self.assertEqual(run(AGAIN, NOW, define("true"), NOW), [[0], [0, 0], [0], [0, 1, 0]])

    def test_no_steps_and_truths_0(self):
        found = run(define("true"), define("not x0 = 1"), step(0), NOW, AGAIN, NOW, meaning(0, 1), meaning(1, 1))
        self.assertEqual(found[3:], [[1, 2, 1, 1], [0], [0, 2, 0, 0], [-4], [-4]])

    def test_all_cells_0(self):
        formula = "rose x0 = 1 or prev true and once [ 2 , 9 ] x0 = 1 and count 1 3 always [ 1 , ] x0 = 2 or since ( true , true )"
        found = run(define(formula), define("prev true"), step(1), step(1), cells(0), cells(1), AGAIN, cells(0), cells(1))
        self.assertNotIn(0, [sum(found[4][1:]), sum(found[5][1:])])
        self.assertEqual(found[7:], [[10] + [0] * 10, [1, 0]])

    def test_steps_as_for_the_first_time(self):
        chance = random.Random(18)
        formulas = [define("since [ 1 , 4 ] ( x0 < 3 , x1 = 1 )"), define("rose x0 = 1"), define("count 3 5 x0 = 1"),
                    define("always [ 0 , 2 ] once [ 1 , ] x0 = 2"), define("prev prev x0 = 1")]
        later = []
        for readings in some_history(chance, 12):
            later += [step(*readings), NOW] + [cells(f) for f in range(5)]
        later += [meaning(f, i) for f in range(5) for i in range(1, 14)]
        earlier = [step(*readings) for readings in some_history(chance, 9)]
        expected = run(*formulas, *later)[5:]
        self.assertEqual(run(*formulas, *earlier, AGAIN, *later)[15:], expected)
        self.assertEqual(run(*formulas, *earlier, AGAIN, *earlier, AGAIN, AGAIN, *later)[26:], expected)

    def test_formulas_and_comparisons_stay(self):
        asked = [form(0), form(1), facts(0), facts(1), atom(0), atom(1), atom(2), form(2)]
        calls = [define("x1 = 1 or prev x0 = 1"), define("x0 = 1")]
        found = run(*calls, *asked, step(1), AGAIN, *asked)
        self.assertEqual(found[2:10], found[12:])
        self.assertEqual(found[16:], [[1, 2, 1], [0, 2, 1], [-3], [-3]])

    def test_define_is_allowed_again(self):
        found = run(define("x0 = 1"), step(1), define("x1 = 1"), AGAIN, define("x1 = 1 or x0 = 1"), atom(0), atom(1), atom(2),
                    NOW, step(0, 1), define("true"), AGAIN, define("true"), NOW)
        self.assertEqual(found[2:], [[-3], [0], [1], [0, 2, 1], [1, 2, 1], [-3], [0, 2, 0, 0], [2, 0, 1], [-3], [0], [2],
                                     [0, 3, 0, 0, 0]])

    def test_numbers_go_on(self):
        calls, expected = [], []
        for number in range(8):
            calls += [define("x0 = %d or x1 = %d" % (number, number)), step(number), AGAIN]
            # x1 is 0 at every step, so the first formula is always so.
            expected += [[number], [number + 1] + [int(f in (number, 0)) for f in range(number + 1)], [0]]
        found = run(*calls, define("true"), atom(15), atom(14), step(), define("true"))
        self.assertEqual(found[:24], expected)
        self.assertEqual(found[24:], [[-4], [1, 2, 7], [0, 2, 7], [8, 1] + [0] * 7, [-3]])
        self.assertEqual(run(*calls[:21], define("x0 = 7 or x0 = 8 or x0 = 9"), AGAIN, define("x0 = 7"))[21:],
                         [[-6], [0], [7]])

    def test_two_hundred_steps_again_and_a_step(self):
        found = run(define("rose x0 = 1"), *[step(0)] * 200, step(0), AGAIN, step(1), step(0), step(1), NOW, reading(1),
                    reading(4), cells(0))
        self.assertEqual(found[201:], [[-3], [0], [1, 0], [1, 0], [1, 1], [3, 1, 1], [8, 1] + [0] * 7, [-3], [1, 2]])

    def test_two_hundred_steps_behind_again(self):
        found = run(*[step(1)] * 150, AGAIN, *[step(2)] * 200, step(3), NOW, reading(200))
        self.assertEqual(found[351:], [[-3], [200, 0], [8, 2] + [0] * 7])


if __name__ == "__main__":
    unittest.main()
