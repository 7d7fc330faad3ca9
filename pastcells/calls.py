"""The object that a list of calls is about, and what each call does with it.

A call's function takes the object and the call's arguments as one list, and answers a list:
what the call answers, or a refusal's number alone.
"""

from pastcells.form import form_of
from pastcells.formula import cell_count, comparisons_of, horizon
from pastcells.grammar import WrongWord, nodes_of
from pastcells.letters import LEAST_READING, MOST_READING, READING_COUNT, all_letters, letter_count
from pastcells.meaning import truth_at_end
from pastcells.search import searched
from pastcells.watcher import cell_row, new_cells, worked
from pastcells.words import words_of

MOST_BYTES = 600
MOST_FORMULAS = 8
MOST_STEPS = 200
MOST_SIZE = 40
MOST_CELLS = 100
MOST_COMPARISONS = 16
MOST_LETTERS = 27
MOST_BUDGET = 200

OUT_OF_RANGE = -1
# The refusals -3 to -6 mean something else in each call: its promise tells what.
WRONG_WORD_BASE = -1000


# Formulas, their comparisons, the steps so far, and each formula's cells and truth at the last step.
class Watch:
    def __init__(self):
        self.formulas = []
        self.comparisons = []
        self.history = []
        self.cells = []
        self.truths = []


def all_between(numbers, least, most):
    return all([least <= number <= most for number in numbers])


def is_formula_number(number):
    return 0 <= number < MOST_FORMULAS


def is_step_number(number):
    return 1 <= number <= MOST_STEPS


def is_budget(number):
    return 1 <= number <= MOST_BUDGET


def define(watch, text):
    if len(text) > MOST_BYTES or not all_between(text, 0, 255):
        return [OUT_OF_RANGE]
    if watch.history != []:
        return [-3]
    if len(watch.formulas) == MOST_FORMULAS:
        return [-4]
    try:
        nodes = nodes_of(words_of(text))
    except WrongWord as wrong:
        return [WRONG_WORD_BASE - wrong.word]
    if len(nodes) > MOST_SIZE or cell_count(nodes) > MOST_CELLS:
        return [-5]
    added = [comparison for comparison in comparisons_of(nodes) if comparison not in watch.comparisons]
    if len(watch.comparisons) + len(added) > MOST_COMPARISONS:
        return [-6]
    watch.comparisons.extend(added)
    watch.formulas.append(nodes)
    watch.cells.append(new_cells(nodes))
    watch.truths.append(0)
    return [len(watch.formulas) - 1]


def step(watch, readings):
    if not all_between(readings, LEAST_READING, MOST_READING):
        return [OUT_OF_RANGE]
    if len(watch.history) == MOST_STEPS:
        return [-3]
    watch.history.append(readings)
    done = [worked(nodes, before, readings) for nodes, before in zip(watch.formulas, watch.cells)]
    watch.truths = [pair[0] for pair in done]
    watch.cells = [pair[1] for pair in done]
    return [len(watch.formulas)] + watch.truths


def now(watch, nothing):
    return [len(watch.history), len(watch.formulas)] + watch.truths


def meaning(watch, numbers):
    formula = numbers[0]
    until = numbers[1]
    if not is_formula_number(formula) or not is_step_number(until):
        return [OUT_OF_RANGE]
    if formula >= len(watch.formulas):
        return [-3]
    if until > len(watch.history):
        return [-4]
    return [truth_at_end(watch.formulas[formula], watch.history[:until])]


def cells(watch, numbers):
    formula = numbers[0]
    if not is_formula_number(formula):
        return [OUT_OF_RANGE]
    if formula >= len(watch.formulas):
        return [-3]
    row = cell_row(watch.formulas[formula], watch.cells[formula])
    return [len(row)] + row


def facts(watch, numbers):
    formula = numbers[0]
    if not is_formula_number(formula):
        return [OUT_OF_RANGE]
    if formula >= len(watch.formulas):
        return [-3]
    nodes = watch.formulas[formula]
    unlike = comparisons_of(nodes)
    return [len(nodes), cell_count(nodes), horizon(nodes), len(unlike), letter_count(unlike)]


def form(watch, numbers):
    formula = numbers[0]
    if not is_formula_number(formula):
        return [OUT_OF_RANGE]
    if formula >= len(watch.formulas):
        return [-3]
    told = form_of(watch.formulas[formula])
    return [len(told)] + [ord(sign) for sign in told]


def atom(watch, numbers):
    comparison = numbers[0]
    if not 0 <= comparison < MOST_COMPARISONS:
        return [OUT_OF_RANGE]
    if comparison >= len(watch.comparisons):
        return [-3]
    return list(watch.comparisons[comparison])


def alike(watch, numbers):
    formula = numbers[0]
    other = numbers[1]
    budget = numbers[2]
    if not is_formula_number(formula) or not is_formula_number(other) or not is_budget(budget):
        return [OUT_OF_RANGE]
    if max(formula, other) >= len(watch.formulas):
        return [-3]
    return search(watch.formulas[formula], watch.formulas[other], budget, differ)


def ever(watch, numbers):
    formula = numbers[0]
    budget = numbers[1]
    if not is_formula_number(formula) or not is_budget(budget):
        return [OUT_OF_RANGE]
    if formula >= len(watch.formulas):
        return [-3]
    return search(watch.formulas[formula], nodes_of(["true"]), budget, first_is_so)


def differ(truth, other):
    return truth != other


def first_is_so(truth, other):
    return truth == 1


# What alike and ever have in common: the search, unless there are too many letters for it.
def search(nodes, others, budget, is_wanted):
    comparisons = comparisons_of(nodes) + comparisons_of(others)
    if letter_count(comparisons) > MOST_LETTERS:
        return [-5]
    return searched(nodes, others, all_letters(comparisons), budget, is_wanted)


def reading(watch, numbers):
    number = numbers[0]
    if not is_step_number(number):
        return [OUT_OF_RANGE]
    if number > len(watch.history):
        return [-3]
    return [READING_COUNT] + watch.history[number - 1]


def again(watch, nothing):
    watch.history = []
    watch.cells = [new_cells(nodes) for nodes in watch.formulas]
    watch.truths = [0] * len(watch.formulas)
    return [0]


CALLS = {
    0: define,
    1: step,
    2: now,
    3: meaning,
    4: cells,
    5: facts,
    6: form,
    7: atom,
    8: alike,
    9: ever,
    10: reading,
    11: again,
}


# What the call of this number answers.
def answer_to(watch, call, arguments):
    return CALLS[call](watch, arguments)
