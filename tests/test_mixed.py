"""All twelve calls, mixed by chance, against the second telling of the document in model.py."""

import random
import unittest

from pastcells.watch import answers

from helper import (AGAIN, LEAST, MOST, NOW, alike, atom, cell_count, cells, comparisons, define, ever, facts, form,
                    loose_text, meaning, reading, run, size, some_tree, step, words)
from model import Model

VALUES = (0, 0, 0, 1, 1, 2, 3, -1)


class Line:
    """Calls by chance; chance is a random.Random."""

    def __init__(self, chance):
        self.chance = chance

    def some_text(self):
        while True:
            tree = some_tree(self.chance, self.chance.choice((0, 1, 1, 2, 2, 3)))
            if size(tree) <= 12 and cell_count(tree) <= 9 and len(comparisons(tree)) <= 6:
                return loose_text(self.chance, tree)

    def define(self):
        kind = self.chance.random()
        if kind < 0.04:
            return define([self.chance.choice((256, -1, 32)) for place in range(self.chance.choice((3, 601)))])
        if kind < 0.12:
            row = words(some_tree(self.chance, 2))
            row[self.chance.randrange(len(row))] = self.chance.choice((")", "true", "x0", "61", "or", "x9"))
            return define(" ".join(row))
        if kind < 0.15:
            return define(" or ".join("x0 = %d" % self.chance.randrange(40) for place in range(self.chance.choice((18, 22)))))
        return define(self.some_text())

    def step(self):
        readings = [self.chance.choice(VALUES) for place in range(8)]
        if self.chance.random() < 0.05:
            readings[self.chance.randrange(8)] = self.chance.choice((LEAST, MOST, LEAST - 1, MOST + 1))
        return step(*readings)

    def f(self):
        return self.chance.choice((0, 0, 0, 1, 1, 1, 2, 2, 3, 4, 7, 8, -1))

    def i(self):
        return self.chance.choice((0, 1, 1, 2, 2, 3, 4, 5, 6, 9, 200, 201))

    def budget(self):
        return self.chance.choice((0, 1, 1, 2, 3, 4, 6, 9, 14, 14, 20, 201))

    def call(self, kind):
        if kind == "define":
            return self.define()
        if kind == "step":
            return self.step()
        return {"now": lambda: NOW, "meaning": lambda: meaning(self.f(), self.i()), "cells": lambda: cells(self.f()),
                "facts": lambda: facts(self.f()), "form": lambda: form(self.f()),
                "atom": lambda: atom(self.chance.choice((0, 1, 2, 3, 4, 6, 9, 15, 16, -1))),
                "alike": lambda: alike(self.f(), self.f(), self.budget()), "ever": lambda: ever(self.f(), self.budget()),
                "reading": lambda: reading(self.i()), "again": lambda: AGAIN}[kind]()

    def calls(self, count):
        found = [self.define() for place in range(self.chance.randint(0, 4))]
        while len(found) < count:
            kind = self.chance.choice(Model.NAMES + ("step", "step", "step", "define"))
            if kind != "again" or self.chance.random() < 0.4:
                found.append(self.call(kind))
        return found


class Mixed(unittest.TestCase):
    def compare(self, calls):
        model = Model()
        expected = [model.answer(call) for call in calls]
        flat = [number for call in calls for number in call]
        before = list(flat)
        told = answers(flat)
        self.assertEqual(told, [number for row in expected for number in [len(row)] + row], calls)
        self.assertEqual(flat, before)
        self.assertEqual(answers(flat), told)
        return expected

    def test_many_lines(self):
        line = Line(random.Random(19))
        answered = {}
        for number in range(600):
            calls = line.calls(line.chance.choice((1, 5, 20, 40)))
            for call, row in zip(calls, self.compare(calls)):
                kind = "wrong word" if row[0] < -1000 else row[0] if row[0] < 0 or call[0] in (8, 9) else "told"
                answered.setdefault(call[0], set()).add(kind)
        self.assertEqual(answered, {0: {"told", "wrong word", -1, -3, -5, -6}, 1: {"told", -1}, 2: {"told"},
                                    3: {"told", -1, -3, -4}, 4: {"told", -1, -3}, 5: {"told", -1, -3},
                                    6: {"told", -1, -3}, 7: {"told", -1, -3}, 8: {0, 1, -1, -3, -5, -6},
                                    9: {0, 1, -1, -3, -5, -6}, 10: {"told", -1, -3}, 11: {"told"}})

    def test_long_lines(self):
        line = Line(random.Random(20))
        for number in range(8):
            calls = [define(line.some_text()) for place in range(8)]
            for round_number in range(2):
                calls += [line.step() for place in range(60)] + [NOW, AGAIN]
            calls += line.calls(400 - len(calls))
            self.assertEqual(len(calls), 400)
            self.compare(calls)

    def test_the_longest_lists(self):
        # Texts that make a list of just 16000 numbers.
        calls = [define("true")] + [define([32] * 998)] * 15 + [step()] * 96
        rest = 16000 - sum(len(call) for call in calls)
        calls += [define([32] * (rest - 2))]
        self.assertEqual(sum(len(call) for call in calls), 16000)
        self.assertEqual(run(*calls), [[0]] + [[-1]] * 15 + [[1, 1]] * 96 + [[-3]])


if __name__ == "__main__":
    unittest.main()
