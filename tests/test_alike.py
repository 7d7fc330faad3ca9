"""Promises 8 and 9, alike and ever: samples, letters, places, budgets, and which history is found."""

import random
import unittest

from pastcells.letters import all_letters

from helper import (AGAIN, LEAST, MOST, NOW, alike, atom, cell_count, cells, comparisons, define, ever, facts, form,
                    letter_count, meaning, reading, run, size, some_history, some_tree, step, text)
from model import Model


def searched(one, other, budget=200):
    return run(define(one), define(other), alike(0, 1, budget))[2]


def sought(formula, budget=200):
    return run(define(formula), ever(0, budget))[1]


def found(*history):
    """The answer of a search that found this history; readings that aren't told are 0."""
    told = [0, len(history)]
    for readings in history:
        told += list(readings) + [0] * (8 - len(readings))
    return told


def apart(reading_number, count, first=0):
    """So many comparisons of a reading, with numbers so far apart that they give 2 * count + 1 samples."""
    return " or ".join("x%d = %d" % (reading_number, first + 3 * number) for number in range(count))


class Ranges(unittest.TestCase):
    def test_alike(self):
        one = define("true")
        for f, g, budget, expected in ((-1, 0, 1, -1), (8, 0, 1, -1), (0, -1, 1, -1), (0, 8, 1, -1), (0, 0, 0, -1),
                                       (0, 0, 201, -1), (0, 0, -1, -1), (7, 0, 1, -3), (0, 7, 1, -3), (0, 0, 1, 1),
                                       (0, 0, 200, 1), (1, 0, 200, -3), (0, 1, 200, -3), (1, 1, 1, -3), (7, 7, 200, -3),
                                       (1, 0, 201, -1), (8, 1, 1, -1), (1, 8, 1, -1), (-2 ** 63, 0, 1, -1),
                                       (0, 2 ** 63 - 1, 1, -1), (0, 0, 2 ** 63 - 1, -1), (0, 0, -2 ** 63, -1)):
            self.assertEqual(run(one, alike(f, g, budget))[1][0], expected, (f, g, budget))

    def test_ever(self):
        one = define("false")
        for f, budget, expected in ((-1, 1, -1), (8, 1, -1), (0, 0, -1), (0, 201, -1), (0, -1, -1), (7, 1, -3), (1, 1, -3),
                                    (0, 1, 1), (0, 200, 1), (1, 0, -1), (1, 201, -1), (-2 ** 63, 1, -1), (2 ** 63 - 1, 1, -1),
                                    (0, -2 ** 63, -1), (0, 2 ** 63 - 1, -1)):
            self.assertEqual(run(one, ever(f, budget))[1][0], expected, (f, budget))

    def test_no_formulas(self):
        self.assertEqual(run(alike(0, 0), ever(0), alike(7, 7, 1), ever(7, 1)), [[-3]] * 4)

    def test_the_eighth_formula(self):
        formulas = [define("true")] * 7 + [define("false")]
        self.assertEqual(run(*formulas, alike(7, 0), alike(0, 7), alike(7, 7), ever(7), alike(3, 6))[8:],
                         [found([]), found([]), [1, 1], [1, 1], [1, 1]])


class Letters(unittest.TestCase):
    def test_twenty_seven_and_more(self):
        self.assertEqual(sought("x0 = 1 and x1 = 1 and x2 = 1 and false"), [1, 1])
        self.assertEqual(sought("false and ( %s )" % apart(5, 13)), [1, 1])
        # 14 numbers, two of them neighbours: 28
        self.assertEqual(sought("( %s or x5 = 1 ) and false" % apart(5, 13)), [-5])
        self.assertEqual(sought("false and ( %s )" % apart(5, 14)), [-5])
        self.assertEqual(sought("x0 = 1 or x1 = 1 or x2 = 1 or x3 = 1"), [-5])
        self.assertEqual(sought("x0 = 1 or x0 = 2 or " + apart(1, 3)), [-5])
        for formula, letters in (("x0 = 1 or x0 = 2 or " + apart(1, 3), 28), ("false and ( %s )" % apart(5, 13), 27)):
            self.assertEqual(run(define(formula), facts(0))[1][4], letters)

    def test_those_of_either_formula(self):
        first, second = apart(1, 3), "x0 = 1 or x0 = 2"
        calls = (define(first), define(second), define("x0 = 1"))
        answers = run(*calls, alike(0, 1), alike(1, 0), alike(0, 0), alike(1, 1), ever(0), ever(1), alike(0, 2))
        self.assertEqual(answers[3:5], [[-5], [-5]])
        self.assertEqual(answers[5:7], [[1, 1], [1, 1]])
        self.assertEqual([row[0] for row in answers[7:]], [0, 0, 0])

    def test_like_numbers_in_both_count_once(self):
        self.assertEqual(searched("x0 = 1 and x1 = 1 and x2 = 1", "x2 = 1 and x1 = 1 and x0 = 1"), [1, 1])
        self.assertEqual(searched("x0 < 1 and x1 = 1 and x2 = 1", "x2 = 1 and x1 = 1 and not x0 >= 1"), [1, 1])
        self.assertEqual(searched("x0 = 1 and x1 = 1 and x2 = 1", "x2 = 1 and x1 = 1 and x0 = 2"), [-5])

    def test_those_of_other_formulas_do_not_count(self):
        many = define(apart(3, 14))
        answers = run(many, define("x0 = 1"), define("x1 = 1"), alike(1, 2), ever(1), alike(1, 0), ever(0))
        self.assertEqual(answers[3:], [found([0, 1]), found([1]), [-5], [-5]])

    def test_very_many(self):
        formula = " or ".join("x%d = %d" % (place, number) for place in range(8) for number in (3, 9))
        self.assertEqual(run(define(formula), alike(0, 0), ever(0))[1:], [[-5], [-5]])

    def test_too_many_letters_come_before_the_budget(self):
        formula = "once [ 0 , 60 ] ( %s )" % apart(5, 14)
        self.assertEqual(run(define(formula), alike(0, 0, 1), ever(0, 1), alike(0, 1, 1))[1:], [[-5], [-5], [-3]])

    def test_order(self):
        letters = all_letters([(1, 0, 5), (6, 3, 9), (6, 3, 10)])
        self.assertEqual(letters, [[0, x1, 0, 0, 0, 0, x6, 0] for x1 in (4, 5, 6) for x6 in (8, 9, 10, 11)])
        self.assertEqual(all_letters([]), [[0] * 8])


class Samples(unittest.TestCase):
    def test_at_the_least_and_the_greatest(self):
        for formula, value in (("x0 < -1000000", None), ("x0 = -1000000", LEAST), ("x0 > -1000000", LEAST + 1),
                               ("x0 != -1000000", LEAST + 1), ("x0 < 1000000", MOST - 1), ("x0 = 1000000", MOST),
                               ("x0 > 1000000", None), ("x0 != 1000000", MOST - 1), ("x0 < -999999", LEAST),
                               ("x0 > 999999", MOST), ("x0 > -1000000 and x0 < 1000000", LEAST + 1),
                               ("x0 > -1000000 and x0 != 1000000 and x0 != -999999", -999998),
                               ("x0 != 999999 and x0 != 999998 and x0 > 999997", MOST)):
            self.assertEqual(sought(formula), [1, 1] if value is None else found([value]), formula)

    def test_neighbouring_numbers(self):
        for formula, value in (("x0 > 5 and x0 < 6", None), ("x0 > 5 and x0 < 7", 6), ("x0 > 5 and x0 < 9", 6),
                               ("x0 >= 5 and x0 < 6", 5), ("x0 > 5 and x0 != 6", 7), ("x0 > -1 and x0 < 1", 0),
                               ("x0 < 5 and x0 < 3", 2), ("x0 < 5 and not x0 < 3", 3), ("x0 != 5 and x0 > 3", 4),
                               ("x0 > 3 and x0 != 4 and x0 != 5 and x0 < 7", 6), ("x0 >= 6 and x0 <= 5", None)):
            self.assertEqual(sought(formula), [1, 1] if value is None else found([value]), formula)

    def test_numbers_of_both_formulas(self):
        self.assertEqual(searched("x0 < 5", "x0 < 6"), found([5]))
        self.assertEqual(searched("x0 < 5", "x0 <= 4"), [1, 1])
        self.assertEqual(searched("x0 < 5", "x0 < 9"), found([5]))
        self.assertEqual(searched("x0 <= 5", "x0 < 9"), found([6]))
        self.assertEqual(searched("x0 > -5", "not x0 <= -5"), [1, 1])

    def test_readings_that_are_not_compared_are_0(self):
        for place in range(8):
            readings = [0] * 8
            readings[place] = 7
            self.assertEqual(sought("x%d = 7" % place), found(readings))


class Differ(unittest.TestCase):
    def test_a_formula_with_itself(self):
        for formula, places in (("true", 1), ("x0 = 1", 1), ("prev x0 = 1", 2), ("rose x0 = 1", 3), ("once x0 = 1", 2),
                                ("once [ 0 , 3 ] x0 = 1", 5), ("once [ 1 , 1 ] x0 = 1", 4), ("always x0 = 1", 2),
                                ("count 2 3 x0 = 1", 4), ("prev prev x0 = 1", 4), ("prev true", 2), ("prev false", 1),
                                ("since ( x0 = 1 , x1 = 1 )", 2), ("since [ 0 , 2 ] ( x0 = 1 , x1 = 1 )", 4)):
            self.assertEqual(run(define(formula), alike(0, 0), alike(0, 0, places))[1:], [[1, places]] * 2, formula)
            self.assertEqual(searched(formula, formula), [1, places])

    def test_never(self):
        for one, other, places in (("true", "not false", 1), ("x0 < 5", "not x0 >= 5", 1),
                                   ("prev x0 = 1", "once [ 1 , 1 ] x0 = 1", 4), ("once x0 = 1", "not always x0 != 1", 2),
                                   ("once [ 0 , 2 ] x0 = 1", "count 1 3 x0 = 1", 5),
                                   ("rose x0 = 1", "x0 = 1 and prev x0 != 1", 3),
                                   ("since ( true , x0 = 1 )", "once x0 = 1", 2),
                                   ("once [ 2 , ] x0 = 1", "prev prev once x0 = 1", 8)):
            self.assertEqual(searched(one, other), [1, places], (one, other))
            self.assertEqual(searched(other, one), [1, places], (one, other))

    def test_at_the_first_step(self):
        for one, other, history in (("true", "false", found([])), ("x0 = 1", "x0 != 1", found([0])),
                                    ("x0 = 1", "x0 >= 1", found([2])), ("x0 = 1", "x1 = 1", found([0, 1])),
                                    ("x3 > -5", "x3 > -6", found([0, 0, 0, -5])), ("prev true", "true", found([])),
                                    ("x0 = 1 and x1 = 1", "false", found([1, 1]))):
            self.assertEqual(searched(one, other), history, (one, other))
            self.assertEqual(searched(other, one), history, (one, other))

    def test_later_only(self):
        for one, other, history in (("prev true", "always false", found([], [])),
                                    ("prev x0 = 1", "false", found([1], [0])),
                                    ("prev prev x0 = 1", "false", found([1], [0], [0])),
                                    ("rose x0 = 1", "false", found([0], [1])),
                                    ("rose x0 = 1", "x0 = 1 and not prev true", found([1])),
                                    ("once [ 0 , 2 ] x0 = 1", "once [ 0 , 3 ] x0 = 1", found([1], [0], [0], [0])),
                                    ("always x0 = 1", "x0 = 1", found([0], [1])),
                                    ("count 2 2 x0 = 1", "count 2 3 x0 = 1", found([1], [0], [1])),
                                    ("since ( x0 = 1 , x1 = 1 )", "once x1 = 1", found([0, 1], [0, 0])),
                                    ("since [ 0 , 1 ] ( x0 = 1 , x1 = 1 )", "since ( x0 = 1 , x1 = 1 )",
                                     found([0, 1], [1, 0], [1, 0]))):
            self.assertEqual(searched(one, other), history, (one, other))
            self.assertEqual(searched(other, one), history, (one, other))

    def test_which_place_comes_first(self):
        # Both places are a step away: the one that the lesser letter brings is looked at first.
        formula = "prev x0 = %d and x1 = 5 or prev x0 = %d and x1 = 3"
        self.assertEqual(sought(formula % (0, 2)), found([0, 2], [-1, 5]))
        self.assertEqual(sought(formula % (2, 0)), found([0, 2], [-1, 3]))
        # A shorter history comes first, although the longer one has lesser letters.
        self.assertEqual(sought("prev prev x0 = 0 or prev x0 = 2"), found([2], [-1]))

    def test_which_letter_comes_first(self):
        self.assertEqual(sought("x0 = 2 and x1 = 2 or x0 = 1 and x1 = 4"), found([1, 4]))
        self.assertEqual(sought("x0 = 2 and x7 < 9 or x7 = 9"), found([1, 0, 0, 0, 0, 0, 0, 9]))
        self.assertEqual(sought("x2 > -4 or x1 >= 2"), found([0, 1, -3]))
        self.assertEqual(sought("prev ( x0 > 1 or x1 > 1 )"), found([0, 2], [0, 0]))

    def test_the_letters_that_brought_a_place_first(self):
        # x0 = 2 and x0 = 3 bring the same place: it's there by the first of them.
        self.assertEqual(sought("prev x0 >= 2"), found([2], [1]))
        # The place is there by one step already, so two steps to it are not told.
        self.assertEqual(sought("prev once x0 = 1 and x0 = 2"), found([1], [2]))

    def test_a_long_history(self):
        self.assertEqual(sought("once [ 60 , ] true"), found(*[[]] * 61))
        self.assertEqual(sought("once [ 60 , 60 ] prev true"), found(*[[]] * 62))
        self.assertEqual(searched("once [ 0 , 59 ] x0 = 1", "once [ 0 , 60 ] x0 = 1"), found([1], *[[0]] * 60))
        self.assertEqual(searched("once [ 0 , 60 ] x0 = 1", "once [ 0 , 60 ] x0 = 1"), [1, 62])
        self.assertEqual(sought("once [ 59 , ] once [ 38 , ] true"), found(*[[]] * 98))


class Budget(unittest.TestCase):
    def test_just_as_many_places_and_one_more(self):
        for formula, places in (("prev x0 = 1 and false", 2), ("rose x0 = 1 and false", 3),
                                ("once [ 0 , 30 ] x0 = 1 and false", 32), ("count 1 6 x0 = 1 and false", 32),
                                ("prev true and false", 2), ("count 1 4 x0 = 1 and prev x1 = 1 and false", 16)):
            for budget in (1, places - 1, places, places + 1, 200):
                expected = [1, places] if budget >= places else [-6]
                self.assertEqual(sought(formula, budget), expected, (formula, budget))
                self.assertEqual(run(define(formula), alike(0, 0, budget))[1], expected, (formula, budget))
                self.assertEqual(searched(formula, "false", budget), expected, (formula, budget))

    def test_two_hundred_places_and_more(self):
        # A place for each number of steps up to 99, and then the same place for ever.
        self.assertEqual(sought("once [ 60 , ] once [ 38 , ] true and false"), [1, 100])
        # 50 rows of cells of the one and 4 of the other, each with each: 200.
        counters = "once [ 0 , %d ] x0 = 1 and count 1 3 x1 = 1 and false"
        self.assertEqual(sought(counters % 48), [1, 200])
        self.assertEqual(sought(counters % 48, 199), [-6])
        self.assertEqual(sought(counters % 49), [-6])

    def test_found_at_the_last_letter_beyond_the_budget(self):
        # The letters -1, 0, 1, 2: the second puts a place to the row, the last one finds.
        formula = "x0 > 1 or prev x0 = 0 and false"
        self.assertEqual(sought(formula, 1), found([2]))
        self.assertEqual(searched(formula, "false", 1), found([2]))
        # The same without anything to find.
        self.assertEqual(sought("x0 > 1 and prev x0 = 0 and false", 1), [-6])
        self.assertEqual(sought("x0 > 1 and prev x0 = 0 and false", 2), [1, 2])
        # Many places by then.
        many = "x0 >= 6 or count 1 5 ( x0 = 2 or x0 = 4 ) and false or prev x0 = 4 and false"
        self.assertEqual(sought(many, 1), found([6]))

    def test_found_at_the_next_place_only_within_the_budget(self):
        # After the first place the row has two (cells 0 and 1); what's looked for is found at the second.
        self.assertEqual(sought("prev x0 = 1", 1), [-6])
        self.assertEqual(sought("prev x0 = 1", 2), found([1], [0]))
        # At the second place a third one is put there before the last letter finds.
        formula = "prev prev x0 = 0 and false or prev x0 = 0 and x0 > 0"
        self.assertEqual(sought(formula, 1), [-6])
        self.assertEqual(sought(formula, 2), found([0], [1]))

    def test_the_budget_counts_the_row_not_the_steps(self):
        self.assertEqual(sought("once [ 5 , ] true", 5), [-6])
        self.assertEqual(sought("once [ 5 , ] true", 6), found(*[[]] * 6))
        self.assertEqual(searched("x0 = 1", "x0 = 2", 1), found([1]))
        self.assertEqual(searched("x0 = 1 or x0 = 2", "x0 > 0 and x0 < 3", 1), [1, 1])


class Ever(unittest.TestCase):
    def test_at_the_first_step(self):
        for formula, history in (("true", found([])), ("x0 = 1", found([1])), ("not x0 = 1", found([0])),
                                 ("always x0 = 1", found([1])), ("once x0 = 1", found([1])), ("not prev true", found([])),
                                 ("always [ 1 , ] false", found([])), ("count 0 5 false", found([])),
                                 ("since ( false , x0 = 1 )", found([1]))):
            self.assertEqual(sought(formula), history, formula)
            self.assertEqual(sought(formula, 1), history, formula)

    def test_later_only(self):
        for formula, history in (("prev true", found([], [])), ("rose x0 = 1", found([0], [1])),
                                 ("prev x0 = 1 and x0 = 2", found([1], [2])), ("not always [ 1 , 1 ] false", found([], [])),
                                 ("count 3 5 x0 = 1", found([1], [1], [1])), ("once [ 2 , 4 ] x0 = 1", found([1], [0], [0])),
                                 ("since [ 1 , ] ( x0 = 1 , x1 = 1 )", found([0, 1], [1, 0]))):
            self.assertEqual(sought(formula), history, formula)

    def test_never(self):
        for formula, places in (("false", 1), ("x0 = 1 and x0 = 2", 1), ("prev false", 1), ("rose true", 2),
                                ("prev x0 = 1 and not prev x0 = 1", 2), ("x0 = 1 and not once x0 = 1", 2),
                                ("rose once x0 = 1 and rose not once x0 = 1", 3), ("prev not true", 1)):
            self.assertEqual(sought(formula), [1, places], formula)

    def test_a_formula_that_is_always_so(self):
        # Found at the first letter, not: never found because it doesn't differ from true.
        self.assertEqual(sought("x0 = 1 or x0 != 1"), found([0]))
        self.assertEqual(sought("not false"), found([]))


class NothingElseChanges(unittest.TestCase):
    FORMULAS = ("since [ 1 , 4 ] ( x0 < 3 , x1 = 1 )", "rose x0 = 1 or prev x1 = 1", "once [ 0 , 3 ] x0 = 2")

    def test_at_whatever_step(self):
        chance = random.Random(13)
        places = range(len(self.FORMULAS))
        asked = [NOW] + [call for f in places for call in (cells(f), form(f), facts(f))] + [atom(i) for i in range(5)]
        searches = [ever(f, budget) for f in places for budget in (1, 200)]
        searches += [alike(f, g, budget) for f in places for g in places for budget in (3, 60)]
        history = some_history(chance, 6)
        plain, mixed = [define(formula) for formula in self.FORMULAS], [define(formula) for formula in self.FORMULAS]
        for done in range(len(history) + 1):
            later = asked + [meaning(f, done) for f in places] + [reading(done)]
            plain += later
            mixed += searches + later
            if done < len(history):
                plain += [step(*history[done])]
                mixed += [step(*history[done])]
        told = run(*mixed)
        self.assertEqual([row for call, row in zip(mixed, told) if call[0] not in (8, 9)], run(*plain))
        answers = [row for call, row in zip(mixed, told) if call[0] in (8, 9)]
        self.assertEqual(answers, answers[:len(searches)] * (len(history) + 1))

    def test_behind_two_hundred_steps_and_again(self):
        calls = [define("prev x0 = 1"), define("false")] + [step(1)] * 190
        told = run(*calls, alike(0, 1), ever(0), NOW, cells(0), AGAIN, alike(0, 1), ever(0), NOW, cells(0), define("true"))
        searched_for = found([1], [0])
        self.assertEqual(told[192:], [searched_for, searched_for, [190, 2, 1, 0], [1, 1], [0], searched_for, searched_for,
                                      [0, 2, 0, 0], [1, 0], [2]])

    def test_define_is_still_allowed(self):
        self.assertEqual(run(define("prev x0 = 1"), ever(0), alike(0, 0), NOW, define("true"), NOW)[3:],
                         [[0, 1, 0], [1], [0, 2, 0, 0]])


class Chance(unittest.TestCase):
    """Many pairs of formulas, against the model."""

    def some_formula(self, chance, depth):
        while True:
            tree = some_tree(chance, depth)
            if size(tree) <= 12 and cell_count(tree) <= 12 and len(comparisons(tree)) <= 3:
                return tree

    def compare(self, trees, *calls):
        model = Model()
        calls = [define(text(tree)) for tree in trees] + list(calls)
        told = run(*calls)
        self.assertEqual(told, [model.answer(call) for call in calls], trees)
        return told[len(trees):]

    def test_pairs(self):
        chance = random.Random(14)
        seen = {}
        for number in range(900):
            trees = [self.some_formula(chance, chance.randint(0, 3)) for place in range(2)]
            if letter_count(*trees) > 15:
                continue
            budget = chance.choice((1, 2, 3, 5, 8, 13, 30))
            for row in self.compare(trees, alike(0, 1, budget), ever(0, budget), alike(0, 0, budget)):
                kind = tuple(row[:2]) if row[0] == 0 else row[0]
                seen[kind] = seen.get(kind, 0) + 1
        self.assertGreater(min(seen.get(kind, 0) for kind in (1, -6, (0, 1), (0, 2))), 20, seen)
        self.assertGreater(seen.get((0, 3), 0), 2, seen)

    def test_every_budget(self):
        chance = random.Random(15)
        for number in range(150):
            trees = [self.some_formula(chance, 2) for place in range(2)]
            if letter_count(*trees) > 9:
                continue
            self.compare(trees, *[alike(0, 1, budget) for budget in range(1, 14)], *[ever(1, budget) for budget in (1, 2, 4)])

    def test_likely_alike(self):
        """A formula and one that means the same, or nearly."""
        chance = random.Random(16)
        never = 0
        for number in range(200):
            tree = self.some_formula(chance, 2)
            other = chance.choice((("not", ("not", tree)), ("or", tree, tree), ("once", 0, 0, tree), ("always", 0, 0, tree),
                                   ("count", 1, 1, tree), ("and", ("true",), tree), ("and", tree, ("prev", ("true",))),
                                   ("since", 0, 0, ("false",), tree), ("or", ("rose", tree), tree)))
            if letter_count(tree) <= 9:
                never += self.compare([tree, other], alike(0, 1, 40))[0][0] == 1
        self.assertGreater(never, 30)


if __name__ == "__main__":
    unittest.main()
