"""A formula's watcher: a fixed number of cells, worked on once a step.

Its cells are kept as a tuple with a tuple for each node of the formula: that node's own cells.
"""

from pastcells.formula import NO_END, cell_count
from pastcells.plain import plain_truth


# The cells before the first step.
def new_cells(nodes):
    return tuple([(0,) * node.width for node in nodes])


# All cells in one list, in the order of the operators in the text.
def cell_row(nodes, cells):
    row = [0] * cell_count(nodes)
    for node, own in zip(nodes, cells):
        for place, cell in enumerate(own):
            row[node.start + place] = cell
    return row


# Each function below does one operator's step: from its parts' truths now and its own cells
# to its truth and its cells afterwards.


def step_prev(node, parts, own):
    return (own[0], (parts[0],))


def step_rose(node, parts, own):
    truth = 1 if parts[0] == 1 and own[0] == 1 else 0
    return (truth, (2 if parts[0] == 1 else 1,))


def step_once(node, parts, own):
    after = once_cells(node, parts[0], own)
    return (0 if after[-1] == 0 else 1, after)


def step_always(node, parts, own):
    after = once_cells(node, 1 - parts[0], own)
    return (1 if after[-1] == 0 else 0, after)


def once_cells(node, now, own):
    latest = node.numbers[0]
    row = (now,) + own[:latest]
    z = 1 if row[latest] == 1 else aged(own[latest], node.numbers)
    return row[:latest] + (z,)


def step_since(node, parts, own):
    latest = node.numbers[0]
    going_on = parts[0] == 1
    row = (parts[1],) + (own[:latest] if going_on else (0,) * latest)
    z = 0
    if row[latest] == 1:
        z = 1
    elif going_on:
        z = aged(own[latest], node.numbers)
    return (0 if z == 0 else 1, row[:latest] + (z,))


# The cell z of a window, a step later, when nothing new has come into the window.
def aged(z, window):
    if z == 0 or window[1] == NO_END:
        return z
    return z + 1 if window[0] + z <= window[1] else 0


def step_count(node, parts, own):
    seen = (parts[0],) + own
    truth = 1 if sum(seen) >= node.numbers[0] else 0
    return (truth, seen[:len(own)])


STEPS = {
    "prev": step_prev,
    "rose": step_rose,
    "once": step_once,
    "always": step_always,
    "since": step_since,
    "count": step_count,
}


# One step: the formula's truth (1 or 0), and the cells that come out.
def worked(nodes, cells, readings):
    truths = []
    after = []
    for node, own in zip(nodes, cells):
        parts = [truths[part] for part in node.parts]
        if node.kind in STEPS:
            done = STEPS[node.kind](node, parts, own)
        else:
            done = (plain_truth(node, parts, readings), own)
        truths.append(done[0])
        after.append(done[1])
    return (truths[-1], tuple(after))
