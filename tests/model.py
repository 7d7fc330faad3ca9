"""A second telling of the whole object: every call, from the document's words, and slowly.

It shares nothing with the program: a formula is a tree (see helper.py), found from its text by another way of
reading; truths and cells are worked out anew from the history whenever they are asked for; the search keeps
histories, and a place is what the cells say behind one.
"""

import itertools

from helper import (LEAST, MOST, OPERATORS, Told, cell_count, comparisons, horizon, letter_count, parts, sample_rows,
                    size)
from test_wrong_word import Finder, split


def closing(row, begin):
    """Where the bracket closes that opens there."""
    depth = 0
    for place in range(begin, len(row)):
        depth += (row[place] == "(") - (row[place] == ")")
        if depth == 0:
            return place
    raise ValueError(row)


def outside(row, word):
    """Where the word stands first outside of all ( ) and [ ]; None if nowhere."""
    depth = 0
    for place, other in enumerate(row):
        depth += (other in ("(", "[")) - (other in (")", "]"))
        if depth == 0 and other == word:
            return place
    return None


def tree_of(row):
    """The tree of a row of words that is a formula."""
    for kind in ("or", "and"):
        place = outside(row, kind)
        if place is not None:
            return (kind, tree_of(row[:place]), tree_of(row[place + 1:]))
    if row[0] in ("true", "false"):
        return (row[0],)
    if row[0] in ("not", "prev", "rose"):
        return (row[0], tree_of(row[1:]))
    if row[0] == "count":
        return ("count", int(row[1]), int(row[2]), tree_of(row[3:]))
    if row[0] == "(":
        assert closing(row, 0) == len(row) - 1, row
        return tree_of(row[1:-1])
    if row[0] in ("once", "always", "since"):
        return windowed(row)
    return ("compare", int(row[0][1]), OPERATORS.index(row[1]), int(row[2]))


def windowed(row):
    a, b, rest = 0, None, row[1:]
    if row[1] == "[":
        end = row.index("]")
        a, b, rest = int(row[2]), int(row[4]) if end == 5 else None, row[end + 1:]
    if row[0] != "since":
        return (row[0], a, b, tree_of(rest))
    inner = rest[1:closing(rest, 0)]
    comma = outside(inner, ",")
    return ("since", a, b, tree_of(inner[:comma]), tree_of(inner[comma + 1:]))


def form_of(tree):
    """The tree's one form."""
    told = [form_of(part) for part in parts(tree)]
    kind = tree[0]
    if kind == "compare":
        return "x%d %s %d" % (tree[1], OPERATORS[tree[2]], tree[3])
    if kind in ("and", "or"):
        return "( %s %s %s )" % (told[0], kind, told[1])
    if kind == "count":
        return "count %d %d %s" % (tree[1], tree[2], told[0])
    if kind in ("once", "always", "since"):
        window = "[ %d , ]" % tree[1] if tree[2] is None else "[ %d , %d ]" % tree[1:3]
        held = "( %s , %s )" % tuple(told) if kind == "since" else told[0]
        return "%s %s %s" % (kind, window, held)
    return " ".join([kind] + told)


def search(one, other, budget, wanted):
    """What alike and ever answer when there are formulas and not too many letters."""
    letters = sorted(itertools.product(*sample_rows(one, other)))

    def place_of(told, steps):
        return told.cells(one, steps), told.cells(other, steps)

    row, places = [()], [place_of(Told(()), 0)]
    for history in row:
        steps = len(history) + 1
        for letter in letters:
            told = Told(history + (letter,))
            if wanted(told.so(one, steps), told.so(other, steps)):
                return [0, steps] + [value for readings in told.history for value in readings]
            place = place_of(told, steps)
            if place not in places:
                places.append(place)
                row.append(told.history)
        if len(row) > budget:
            return [-6]
    return [1, len(row)]


def between(least, number, most):
    return least <= number <= most


class Model:
    NAMES = ("define", "step", "now", "meaning", "cells", "facts", "form", "atom", "alike", "ever", "reading", "again")

    def __init__(self):
        self.trees, self.atoms, self.history = [], [], []

    def answer(self, call):
        arguments = call[2:] if call[0] == 0 else call[1:]
        return getattr(self, self.NAMES[call[0]])(*arguments)

    def told(self):
        return Told(self.history)

    def truths(self):
        steps = len(self.history)
        return [int(steps > 0 and self.told().so(tree, steps)) for tree in self.trees]

    def define(self, *numbers):
        if len(numbers) > 600 or not all(between(0, number, 255) for number in numbers):
            return [-1]
        if self.history:
            return [-3]
        if len(self.trees) == 8:
            return [-4]
        row = split(bytes(numbers).decode("latin-1"))
        wrong = Finder(row).find()
        if wrong is not None:
            return [-1000 - wrong]
        tree = tree_of(row)
        if size(tree) > 40 or cell_count(tree) > 100:
            return [-5]
        atoms = list(dict.fromkeys(self.atoms + comparisons(tree)))
        if len(atoms) > 16:
            return [-6]
        self.atoms = atoms
        self.trees.append(tree)
        return [len(self.trees) - 1]

    def step(self, *readings):
        if not all(between(LEAST, value, MOST) for value in readings):
            return [-1]
        if len(self.history) == 200:
            return [-3]
        self.history = self.history + [list(readings)]
        return [len(self.trees)] + self.truths()

    def now(self):
        return [len(self.history), len(self.trees)] + self.truths()

    def meaning(self, f, i):
        if not between(0, f, 7) or not between(1, i, 200):
            return [-1]
        if f >= len(self.trees):
            return [-3]
        if i > len(self.history):
            return [-4]
        return [int(Told(self.history[:i]).so(self.trees[f], i))]

    def cells(self, f):
        if not between(0, f, 7):
            return [-1]
        if f >= len(self.trees):
            return [-3]
        row = self.told().cells(self.trees[f], len(self.history))
        return [len(row)] + row

    def facts(self, f):
        if not between(0, f, 7):
            return [-1]
        if f >= len(self.trees):
            return [-3]
        tree = self.trees[f]
        back = horizon(tree)
        return [size(tree), cell_count(tree), -1 if back is None else back, len(comparisons(tree)), letter_count(tree)]

    def form(self, f):
        if not between(0, f, 7):
            return [-1]
        if f >= len(self.trees):
            return [-3]
        told = form_of(self.trees[f]).encode()
        return [len(told)] + list(told)

    def atom(self, i):
        if not between(0, i, 15):
            return [-1]
        return list(self.atoms[i][1:]) if i < len(self.atoms) else [-3]

    def alike(self, f, g, budget):
        if not between(0, f, 7) or not between(0, g, 7) or not between(1, budget, 200):
            return [-1]
        if f >= len(self.trees) or g >= len(self.trees):
            return [-3]
        if letter_count(self.trees[f], self.trees[g]) > 27:
            return [-5]
        return search(self.trees[f], self.trees[g], budget, lambda one, other: one != other)

    def ever(self, f, budget):
        if not between(0, f, 7) or not between(1, budget, 200):
            return [-1]
        if f >= len(self.trees):
            return [-3]
        if letter_count(self.trees[f]) > 27:
            return [-5]
        return search(self.trees[f], ("true",), budget, lambda one, other: one)

    def reading(self, i):
        if not between(1, i, 200):
            return [-1]
        return [8] + self.history[i - 1] if i <= len(self.history) else [-3]

    def again(self):
        self.history = []
        return [0]
