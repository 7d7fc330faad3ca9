"""Truths (1 or 0) that hang on nothing but the step itself."""

from pastcells.formula import COMPARE


# Whether a comparison (reading, operator, number) is so at a step of these readings.
def holds(comparison, readings):
    value = readings[comparison[0]]
    number = comparison[2]
    # In the order of the operators' numbers.
    outcomes = (value < number, value <= number, value == number, value != number, value >= number, value > number)
    return outcomes[comparison[1]]


# The truth of a constant, a comparison, not, and, or, where its parts' truths are these.
def plain_truth(node, parts, readings):
    if node.kind == COMPARE:
        return 1 if holds(node.numbers, readings) else 0
    if node.kind == "not":
        return 1 - parts[0]
    if node.kind == "and":
        return parts[0] & parts[1]
    if node.kind == "or":
        return parts[0] | parts[1]
    return 1 if node.kind == "true" else 0
