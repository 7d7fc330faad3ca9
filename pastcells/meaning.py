"""What a formula means of a history, told from the history alone.

A row here is a list of truths (1 or 0), one for each step of the history, the first step's first.
"""

from pastcells.formula import NO_END
from pastcells.plain import plain_truth


def plain_row(node, parts, history):
    row = []
    for place, readings in enumerate(history):
        truths = [part[place] for part in parts]
        row.append(plain_truth(node, truths, readings))
    return row


# Of a row the truths in the node's window, as seen from a place, and none ahead of the earliest.
def within(node, row, place, earliest):
    latest = node.numbers[0]
    if node.numbers[1] != NO_END:
        earliest = max(earliest, place - node.numbers[1])
    # Below 0 a slice would count from the row's end.
    return row[earliest:max(0, place - latest + 1)]


def prev_row(node, parts):
    return [0] + parts[0][:-1]


def rose_row(node, parts):
    # Ahead of the first step a 1: nothing rises there.
    before = [1] + parts[0][:-1]
    return [1 if now == 1 and earlier == 0 else 0 for now, earlier in zip(parts[0], before)]


def once_row(node, parts):
    return [1 if 1 in within(node, parts[0], place, 0) else 0 for place in range(len(parts[0]))]


def always_row(node, parts):
    return [0 if 0 in within(node, parts[0], place, 0) else 1 for place in range(len(parts[0]))]


def since_row(node, parts):
    row = []
    # The first part is so at every step behind a step just if that one isn't ahead of where it last wasn't so.
    earliest = 0
    for place, truth in enumerate(parts[0]):
        if truth == 0:
            earliest = place
        row.append(1 if 1 in within(node, parts[1], place, earliest) else 0)
    return row


def count_row(node, parts):
    row = []
    for place in range(len(parts[0])):
        seen = parts[0][max(0, place + 1 - node.numbers[1]):place + 1]
        row.append(1 if sum(seen) >= node.numbers[0] else 0)
    return row


ROWS = {
    "prev": prev_row,
    "rose": rose_row,
    "once": once_row,
    "always": always_row,
    "since": since_row,
    "count": count_row,
}


# The formula's truth at the last step of the history (a list of rows of eight readings).
def truth_at_end(nodes, history):
    rows = []
    for node in nodes:
        parts = [rows[part] for part in node.parts]
        if node.kind in ROWS:
            rows.append(ROWS[node.kind](node, parts))
        else:
            rows.append(plain_row(node, parts, history))
    return rows[-1][-1]
