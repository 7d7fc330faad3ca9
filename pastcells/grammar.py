"""From the words of a text to a formula's nodes, or to the wrong word."""

from pastcells.formula import COMPARE, NO_END, OPERATORS, WINDOWED, Node, own_width
from pastcells.words import number_of, signed_number_of

DEEPEST = 40
MOST_BACK = 60
MOST_COMPARED = 1000000
READINGS = {"x0": 0, "x1": 1, "x2": 2, "x3": 3, "x4": 4, "x5": 5, "x6": 6, "x7": 7}
HOLDING = ("(", "not", "prev", "rose", "once", "always", "count", "since")


# The text isn't a formula: its word of this number (from 1) is the wrong one.
class WrongWord(Exception):
    def __init__(self, word):
        self.word = word


# Goes through the words and gathers the nodes, each behind its parts.
class Reader:
    def __init__(self, words):
        self.words = words
        self.taken = 0
        self.nodes = []
        self.claimed = 0

    # The word that comes next; behind the last one "", which is no word.
    def ahead(self):
        return self.words[self.taken] if self.taken < len(self.words) else ""

    def take(self):
        self.taken += 1

    # Takes this very word.
    def want(self, word):
        self.need(self.ahead() == word)
        self.take()

    # Refuses the word that comes next unless it's right.
    def need(self, right):
        if not right:
            raise WrongWord(self.taken + 1)

    # Takes a number from least to most.
    def take_number(self, least, most):
        value = number_of(self.ahead())
        self.need(value is not None and least <= value <= most)
        self.take()
        return value

    # Puts a node behind the others and tells where it stands.
    def put(self, kind, numbers, parts, start):
        self.nodes.append(Node(kind, numbers, parts, start))
        return len(self.nodes) - 1


# The nodes of the formula that the words are; raises WrongWord if they are none.
def nodes_of(words):
    reader = Reader(words)
    read_formula(reader, 1)
    reader.need(reader.ahead() == "")
    return reader.nodes


# The functions below answer where the node of what they read stands.


def read_formula(reader, depth):
    parts = [read_conjunction(reader, depth)]
    while reader.ahead() == "or":
        reader.take()
        parts.append(read_conjunction(reader, depth))
    return join_from_right(reader, "or", parts)


def read_conjunction(reader, depth):
    parts = [read_unit(reader, depth)]
    while reader.ahead() == "and":
        reader.take()
        parts.append(read_unit(reader, depth))
    return join_from_right(reader, "and", parts)


def join_from_right(reader, kind, parts):
    whole = parts[-1]
    for part in reversed(parts[:-1]):
        whole = reader.put(kind, (), (part, whole), reader.claimed)
    return whole


def read_unit(reader, depth):
    word = reader.ahead()
    if word in HOLDING:
        return read_holding(reader, word, depth)
    if word in READINGS:
        return read_comparison(reader)
    reader.need(word == "true" or word == "false")
    reader.take()
    return reader.put(word, (), (), reader.claimed)


def read_comparison(reader):
    reading = READINGS[reader.ahead()]
    reader.take()
    reader.need(reader.ahead() in OPERATORS)
    operator = OPERATORS.index(reader.ahead())
    reader.take()
    number = signed_number_of(reader.ahead())
    reader.need(number is not None and abs(number) <= MOST_COMPARED)
    reader.take()
    return reader.put(COMPARE, (reading, operator, number), (), reader.claimed)


# A unit that holds deeper ones.
def read_holding(reader, word, depth):
    reader.take()
    own_word = reader.taken
    numbers = read_numbers(reader, word)
    # Only now: what's wrong in a window or in count's numbers is told sooner than too great a depth.
    if depth > DEEPEST:
        raise WrongWord(own_word)
    if word == "(":
        whole = read_formula(reader, depth + 1)
        reader.want(")")
        return whole
    return read_operator(reader, word, numbers, depth)


def read_operator(reader, word, numbers, depth):
    # Cells stand in the order of the text, but the node comes behind its parts: so its cells' place is kept.
    start = reader.claimed
    reader.claimed += own_width(word, numbers)
    if word == "since":
        parts = read_pair(reader, depth + 1)
    else:
        parts = (read_unit(reader, depth + 1),)
    return reader.put(word, numbers, parts, start)


# The two formulas that since holds.
def read_pair(reader, depth):
    reader.want("(")
    first = read_formula(reader, depth)
    reader.want(",")
    second = read_formula(reader, depth)
    reader.want(")")
    return (first, second)


# The numbers that stand between an operator's word and its parts.
def read_numbers(reader, word):
    if word in WINDOWED:
        return read_window(reader)
    if word == "count":
        return read_count(reader)
    return ()


def read_window(reader):
    if reader.ahead() != "[":
        return (0, NO_END)
    reader.take()
    latest = reader.take_number(0, MOST_BACK)
    reader.want(",")
    earliest = NO_END
    if reader.ahead() != "]":
        earliest = reader.take_number(latest, MOST_BACK)
    reader.want("]")
    return (latest, earliest)


def read_count(reader):
    least = reader.take_number(0, MOST_BACK)
    steps = reader.take_number(max(1, least), MOST_BACK)
    return (least, steps)
