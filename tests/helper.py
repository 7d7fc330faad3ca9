"""What the tests share: calls, formulas as trees, and what the document says of them.

A tree is a tuple: ("true",), ("false",), ("compare", reading, operator, number), ("not", f), ("and", f, g),
("or", f, g), ("prev", f), ("rose", f), ("once", a, b, f), ("always", a, b, f), ("since", a, b, f, g) with b None
where the window has no end, ("count", k, n, f). What is told of trees here is told from the document's sections
on meaning, on sizes and on what the cells say, and shares nothing with the program.
"""

import math

from pastcells.watch import answers

OPERATORS = ("<", "<=", "=", "!=", ">=", ">")
LEAST, MOST = -1000000, 1000000


# Calls


def define(text):
    numbers = list(text.encode("latin-1")) if isinstance(text, str) else list(text)
    return [0, len(numbers)] + numbers


def step(*readings):
    """A step; readings that aren't told are 0."""
    return [1] + list(readings) + [0] * (8 - len(readings))


NOW = [2]


def meaning(f, i):
    return [3, f, i]


def cells(f):
    return [4, f]


def facts(f):
    return [5, f]


def form(f):
    return [6, f]


def atom(i):
    return [7, i]


def alike(f, g, budget=200):
    return [8, f, g, budget]


def ever(f, budget=200):
    return [9, f, budget]


def reading(i):
    return [10, i]


AGAIN = [11]


def run(*calls):
    """The answers, one list for each call."""
    flat = [number for call in calls for number in call]
    told = answers(flat)
    found, place = [], 0
    while place < len(told):
        found.append(told[place + 1:place + 1 + told[place]])
        place += 1 + told[place]
    assert place == len(told) and len(found) == len(calls), (calls, told)
    assert all(type(number) is int for number in told), told
    return found


def defined(text):
    """What define answers on a new object."""
    return run(define(text))[0]


# Trees


def parts(tree):
    return [part for part in tree if isinstance(part, tuple)]


def in_order(tree):
    """The tree's nodes, an operator ahead of its parts."""
    return [tree] + [node for part in parts(tree) for node in in_order(part)]


def size(tree):
    return len(in_order(tree))


def comparisons(tree):
    """The unlike ones, in the order of the text."""
    return list(dict.fromkeys(node for node in in_order(tree) if node[0] == "compare"))


def width(node):
    kind = node[0]
    if kind in ("prev", "rose"):
        return 1
    if kind in ("once", "always", "since"):
        return node[1] + 1
    return node[2] - 1 if kind == "count" else 0


def cell_count(tree):
    return sum(width(node) for node in in_order(tree))


def horizon(tree):
    """None if there's no end."""
    below = [horizon(part) for part in parts(tree)]
    own = 1 if tree[0] in ("prev", "rose") else 0
    if tree[0] in ("once", "always", "since"):
        own = tree[2]
    if tree[0] == "count":
        own = tree[2] - 1
    if own is None or None in below:
        return None
    return own + max(below, default=0)


def samples(numbers):
    """By trying which of all the readings near the numbers are samples."""
    near = {number + d for number in numbers for d in (-1, 0, 1)}
    found = []
    for value in sorted(near):
        above_all = all(number < value for number in numbers)
        below_all = all(value < number for number in numbers)
        is_sample = value in numbers or above_all or below_all or value - 1 in numbers
        if LEAST <= value <= MOST and is_sample:
            found.append(value)
    return found or [0]


def sample_rows(*trees):
    """The samples of each reading, for the comparisons of all the trees."""
    compared = [node for tree in trees for node in comparisons(tree)]
    return [samples({node[3] for node in compared if node[1] == place}) for place in range(8)]


def letter_count(*trees):
    return math.prod(len(row) for row in sample_rows(*trees))


class Told:
    """A tree over a history, as the document's meaning of formulas tells it. Steps are numbered from 1."""

    def __init__(self, history):
        self.history = history
        self.known = {}

    def so(self, tree, i):
        key = (tree, i)
        if key not in self.known:
            self.known[key] = self.work_out(tree, i)
        return self.known[key]

    def window(self, a, b, i):
        return [j for j in range(1, i + 1) if i - j >= a and (b is None or i - j <= b)]

    def lasting(self, f, g, j, i):
        """g at step j, and f at every step behind it up to step i."""
        return self.so(g, j) and all(self.so(f, k) for k in range(j + 1, i + 1))

    def work_out(self, tree, i):
        kind = tree[0]
        if kind in ("true", "false"):
            return kind == "true"
        if kind == "compare":
            value, number = self.history[i - 1][tree[1]], tree[3]
            return eval("value %s number" % {"=": "=="}.get(OPERATORS[tree[2]], OPERATORS[tree[2]]))
        if kind == "not":
            return not self.so(tree[1], i)
        if kind == "and":
            return self.so(tree[1], i) and self.so(tree[2], i)
        if kind == "or":
            return self.so(tree[1], i) or self.so(tree[2], i)
        if kind == "prev":
            return i > 1 and self.so(tree[1], i - 1)
        if kind == "rose":
            return self.so(tree[1], i) and i > 1 and not self.so(tree[1], i - 1)
        if kind == "count":
            return sum(self.so(tree[3], j) for j in range(max(1, i - tree[2] + 1), i + 1)) >= tree[1]
        steps = self.window(tree[1], tree[2], i)
        if kind == "once":
            return any(self.so(tree[3], j) for j in steps)
        if kind == "always":
            return all(self.so(tree[3], j) for j in steps)
        return any(self.lasting(tree[3], tree[4], j, i) for j in steps)

    def cells(self, tree, i):
        """What the cells say when i steps have been done."""
        own = [int(cell) for cell in self.own_cells(tree, i)]
        return own + [cell for part in parts(tree) for cell in self.cells(part, i)]

    def own_cells(self, tree, i):
        kind = tree[0]
        if kind == "prev":
            return [i > 0 and self.so(tree[1], i)]
        if kind == "rose":
            return [0 if i == 0 else 2 if self.so(tree[1], i) else 1]
        if kind == "count":
            return [j >= 1 and self.so(tree[3], j) for j in range(i, i - tree[2] + 1, -1)]
        if kind == "once":
            return self.window_cells(tree, i, lambda j: self.so(tree[3], j))
        if kind == "always":
            return self.window_cells(tree, i, lambda j: not self.so(tree[3], j))
        if kind == "since":
            return self.window_cells(tree, i, lambda j: self.lasting(tree[3], tree[4], j, i))
        return []

    def window_cells(self, tree, i, was):
        a, b = tree[1], tree[2]
        first = [j >= 1 and was(j) for j in range(i, i - a, -1)]
        steps = [j for j in self.window(a, b, i) if was(j)]
        if not steps:
            return first + [0]
        return first + [1 if b is None else 1 + i - max(steps) - a]


# Trees by chance (always the same ones: chance is a random.Random with a seed), and as texts


def some_window(chance):
    a = chance.choice((0, 0, 1, 2, 3, 5))
    return a, chance.choice((None, a, a + 1, a + 2, a + 4, a + 7))


def some_tree(chance, depth):
    if depth == 0 or chance.random() < 0.1:
        if chance.random() < 0.1:
            return (chance.choice(("true", "false")),)
        return ("compare", chance.randrange(3), chance.randrange(6), chance.choice((0, 0, 1, 2)))
    kind = chance.choice(("not", "and", "or", "prev", "rose", "once", "always", "since", "count"))
    first = some_tree(chance, depth - 1)
    if kind in ("and", "or"):
        return (kind, first, some_tree(chance, depth - 1))
    if kind == "since":
        return (kind,) + some_window(chance) + (first, some_tree(chance, depth - 1))
    if kind in ("once", "always"):
        return (kind,) + some_window(chance) + (first,)
    if kind == "count":
        n = chance.choice((1, 2, 3, 5))
        return (kind, chance.randint(0, n), n, first)
    return (kind, first)


def some_history(chance, steps):
    return [[chance.choice((0, 0, 1, 1, 2, 3)) for reading in range(8)] for step_number in range(steps)]


def words(tree, place="formula"):
    """The words of a tree's text; place is the grammar's name of what it stands for there."""
    kind = tree[0]
    if kind in ("true", "false"):
        return [kind]
    if kind == "compare":
        return ["x%d" % tree[1], OPERATORS[tree[2]], str(tree[3])]
    if kind in ("and", "or"):
        left, right = ("unit", "conjunction") if kind == "and" else ("conjunction", "formula")
        found = words(tree[1], left) + [kind] + words(tree[2], right)
        fits = place == "formula" or (place == "conjunction" and kind == "and")
        return found if fits else ["("] + found + [")"]
    if kind in ("once", "always", "since"):
        end = [] if tree[2] is None else [str(tree[2])]
        shown = ["[", str(tree[1]), ","] + end + ["]"]
        shown = [] if (tree[1], tree[2]) == (0, None) else shown
        if kind == "since":
            return [kind] + shown + ["("] + words(tree[3]) + [","] + words(tree[4]) + [")"]
        return [kind] + shown + words(tree[3], "unit")
    if kind == "count":
        return [kind, str(tree[1]), str(tree[2])] + words(tree[3], "unit")
    return [kind] + words(tree[1], "unit")


def text(tree):
    return " ".join(words(tree))


def loose_number(chance, number, may_be_signed=False):
    sign = "-" if number < 0 or (number == 0 and may_be_signed and chance.random() < 0.3) else ""
    return sign + str(abs(number)).zfill(chance.choice((1, 1, 2, 7)))


def loose_words(chance, tree, place="formula"):
    """As words, but with needless brackets, zeros, signs and windows, here and there."""
    if chance.random() < 0.2:
        return ["("] + loose_words(chance, tree) + [")"]
    kind = tree[0]
    if kind in ("true", "false"):
        return [kind]
    if kind == "compare":
        return ["x%d" % tree[1], OPERATORS[tree[2]], loose_number(chance, tree[3], True)]
    if kind in ("and", "or"):
        left, right = ("unit", "conjunction") if kind == "and" else ("conjunction", "formula")
        found = loose_words(chance, tree[1], left) + [kind] + loose_words(chance, tree[2], right)
        fits = place == "formula" or (place == "conjunction" and kind == "and")
        return found if fits else ["("] + found + [")"]
    if kind == "count":
        numbers = [loose_number(chance, number) for number in tree[1:3]]
        return [kind] + numbers + loose_words(chance, tree[3], "unit")
    if kind in ("once", "always", "since"):
        numbers = [loose_number(chance, number) for number in tree[1:3] if number is not None]
        window = ["[", numbers[0], ","] + numbers[1:] + ["]"]
        if (tree[1], tree[2]) == (0, None) and chance.random() < 0.5:
            window = []
        if kind == "since":
            held = ["("] + loose_words(chance, tree[3]) + [","] + loose_words(chance, tree[4]) + [")"]
        else:
            held = loose_words(chance, tree[3], "unit")
        return [kind] + window + held
    return [kind] + loose_words(chance, tree[1], "unit")


def loose_text(chance, tree):
    """A text of the tree with more or fewer blanks and line feeds than are usual."""
    row = loose_words(chance, tree)
    found = chance.choice(("", " ", "\n"))
    for word, later in zip(row, row[1:] + ["("]):
        may_touch = word in "()[]," or later in "()[],"
        found += word + chance.choice((" ", " ", "\n", " \n ", "" if may_touch else " "))
    return found
