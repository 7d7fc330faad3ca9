"""What a formula is made of, and what can be told of it without a history.

A formula is a list of nodes, each behind its parts, so the last one is the whole of it.
Going through the list once, from its beginning, meets every part ahead of what holds it.
"""

COMPARE = "compare"
# The operators of comparisons, in the order of their numbers.
OPERATORS = ("<", "<=", "=", "!=", ">=", ">")
WINDOWED = ("once", "always", "since")
NO_END = -1


# One constant, comparison or operator of a formula.
class Node:
    def __init__(self, kind, numbers, parts, start):
        # The word that it's told with; COMPARE for a comparison.
        self.kind = kind
        # A comparison's reading, operator and number; a window's a and b (or NO_END); count's k and n.
        self.numbers = numbers
        # Where its parts stand in the formula's list.
        self.parts = parts
        # How many cells of the formula stand ahead of its own, and how many it has itself.
        self.start = start
        self.width = own_width(kind, numbers)


# How many cells an operator has beside those of its parts.
def own_width(kind, numbers):
    if kind == "prev" or kind == "rose":
        return 1
    if kind in WINDOWED:
        return numbers[0] + 1
    if kind == "count":
        return numbers[1] - 1
    return 0


# How many cells the formula's watcher has.
def cell_count(nodes):
    return sum([node.width for node in nodes])


# How many steps back the formula may look; NO_END if there's no such number.
def horizon(nodes):
    horizons = []
    for node in nodes:
        horizons.append(node_horizon(node, [horizons[part] for part in node.parts]))
    return horizons[-1]


def node_horizon(node, behind):
    own = own_reach(node)
    if own == NO_END or NO_END in behind:
        return NO_END
    return own + max(behind, default=0)


# How many steps further back than its parts an operator may look.
def own_reach(node):
    if node.kind == "prev" or node.kind == "rose":
        return 1
    if node.kind in WINDOWED:
        return node.numbers[1]
    if node.kind == "count":
        return node.numbers[1] - 1
    return 0


# The formula's unlike comparisons (reading, operator, number), in the order of its text.
def comparisons_of(nodes):
    found = []
    for node in nodes:
        if node.kind == COMPARE and node.numbers not in found:
            found.append(node.numbers)
    return found
