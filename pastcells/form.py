"""The one form of a formula: a text of it with nothing missing and nothing needless."""

from pastcells.formula import COMPARE, NO_END, OPERATORS, WINDOWED


# The formula's one form.
def form_of(nodes):
    forms = []
    for node in nodes:
        words = words_around(node, [forms[part] for part in node.parts])
        forms.append(" ".join(words))
    return forms[-1]


# A node's own words, with its parts' forms among them.
def words_around(node, parts):
    if node.kind == COMPARE:
        return ["x" + str(node.numbers[0]), OPERATORS[node.numbers[1]], str(node.numbers[2])]
    if node.kind == "and" or node.kind == "or":
        return ["(", parts[0], node.kind, parts[1], ")"]
    ahead = [node.kind] + number_words(node)
    if node.kind == "since":
        return ahead + ["(", parts[0], ",", parts[1], ")"]
    return ahead + parts


# The words between an operator's word and its parts.
def number_words(node):
    numbers = [str(number) for number in node.numbers]
    if node.kind not in WINDOWED:
        return numbers
    if node.numbers[1] == NO_END:
        return ["[", numbers[0], ",", "]"]
    return ["[", numbers[0], ",", numbers[1], "]"]
