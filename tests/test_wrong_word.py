"""Promise 0, define: the wrong word of many texts, against a second way to find it.

The second way keeps what is still wanted on a pile, the next thing last, and knows nothing of formulas' nodes.
"""

import random
import re
import unittest

from helper import cell_count, comparisons, defined, size, some_tree, words

VOCABULARY = ("true", "false", "x0", "x7", "x8", "<", ">=", "=", "0", "1", "5", "60", "61", "-3", "1000000", "0000007",
              "00000007", "1000001", "(", ")", "[", "]", ",", "not", "prev", "rose", "once", "always", "count", "since",
              "and", "or", "or", "and", "x0 < 5", "[ 1 , 2 ]", "nonsense")


def split(text):
    """The words of a text, by a pattern."""
    return re.findall(r"[()\[\],]|[^()\[\], \n]+", text)


def as_number(word):
    return int(word) if re.fullmatch("[0-9]{1,7}", word) else None


def in_range(word, least, most):
    value = as_number(word)
    return value is not None and least <= value <= most


class Finder:
    """Finds the wrong word of a row of words; None if they are a formula."""

    def __init__(self, row):
        self.row = row + [""]
        self.at = 0
        self.pile = [("end",), ("chain", 1)]

    def find(self):
        while self.pile:
            wanted = self.pile.pop()
            found = getattr(self, wanted[0])(*wanted[1:])
            if found is not None:
                return found
        return None

    def more(self, *wanted):
        self.pile.extend(reversed(wanted))

    def accept(self, fits):
        if not fits:
            return self.at + 1
        self.at += 1
        return None

    def end(self):
        return self.accept(self.row[self.at] == "")

    def chain(self, depth):
        self.more(("unit", depth), ("behind", depth))

    def behind(self, depth):
        if self.row[self.at] in ("and", "or"):
            self.at += 1
            self.chain(depth)

    def word(self, *allowed):
        return self.accept(self.row[self.at] in allowed)

    def compared(self):
        word = self.row[self.at]
        return self.accept(in_range(word[1:] if word[:1] == "-" else word, 0, 1000000))

    def too_deep(self, own, depth):
        return own if depth > 40 else None

    def ranged(self, least, most):
        return self.accept(in_range(self.row[self.at], least, most))

    def window(self):
        if self.row[self.at] == "[":
            self.more(("word", "["), ("window_start",))

    def window_start(self):
        self.more(("ranged", 0, 60), ("word", ","), ("window_end", as_number(self.row[self.at])))

    def window_end(self, least):
        if self.row[self.at] != "]":
            self.more(("ranged", least, 60), ("word", "]"))
        else:
            self.more(("word", "]"))

    def first_count(self):
        self.more(("ranged", 0, 60), ("second_count", as_number(self.row[self.at])))

    def second_count(self, least):
        self.more(("ranged", max(1, least), 60))

    def unit(self, depth):
        word = self.row[self.at]
        self.at += 1
        own, deeper = self.at, depth + 1
        check = ("too_deep", own, depth)
        if word in ("true", "false"):
            return None
        if re.fullmatch("x[0-7]", word):
            self.more(("word", "<", "<=", "=", "!=", ">=", ">"), ("compared",))
        elif word == "(":
            self.more(check, ("chain", deeper), ("word", ")"))
        elif word in ("not", "prev", "rose"):
            self.more(check, ("unit", deeper))
        elif word in ("once", "always"):
            self.more(("window",), check, ("unit", deeper))
        elif word == "count":
            self.more(("first_count",), check, ("unit", deeper))
        elif word == "since":
            self.more(("window",), check, ("word", "("), ("chain", deeper), ("word", ","), ("chain", deeper),
                      ("word", ")"))
        else:
            return own
        return None


def told(text):
    """The wrong word that define tells; None if the text is a formula (too great a one, maybe)."""
    answer = defined(text)[0]
    return -1000 - answer if answer < -1000 else None


class AgainstTheFinder(unittest.TestCase):
    def compare(self, text):
        self.assertEqual(told(text), Finder(split(text)).find(), text)

    def spoilt(self, chance, row):
        row = list(row)
        for change in range(chance.randint(0, 2)):
            place = chance.randrange(len(row) + 1)
            removed = chance.choice((0, 0, 1, 1, 2))
            row[place:place + removed] = [chance.choice(VOCABULARY)] * chance.randint(0, 1)
        return row

    def test_spoilt_formulas(self):
        chance = random.Random(1)
        wrongs = 0
        for number in range(6000):
            text = " ".join(self.spoilt(chance, words(some_tree(chance, chance.randint(0, 4)))))
            if len(text) <= 600:
                self.compare(text)
                wrongs += told(text) is not None
        self.assertGreater(wrongs, 2000)

    def test_words_by_chance(self):
        chance = random.Random(2)
        for number in range(6000):
            row = [chance.choice(VOCABULARY) for place in range(chance.randint(0, 12))]
            self.compare(chance.choice(("", " ")).join(row) if number % 5 == 0 else " ".join(row))

    def test_deep_formulas(self):
        chance = random.Random(3)
        wrappings = (("(", ")"), ("not ", ""), ("prev ", ""), ("once[2,5]", ""), ("always ", ""), ("count 1 2 ", ""),
                     ("since(", ",true)"), ("rose ", ""), ("(", ") and true"), ("since(true,", ")"))
        deep = 0
        for number in range(3000):
            text = " ".join(self.spoilt(chance, words(some_tree(chance, chance.randint(0, 2)))))
            for layer in range(chance.randint(36, 41)):
                begin, end = chance.choice(wrappings[:1] * 12 + wrappings)
                text = begin + text + end
                if end == ") and true":
                    text = "(" + text + ")"
            if len(text) <= 600:
                self.compare(text)
                deep += 1
        self.assertGreater(deep, 1500)

    def test_bytes_by_chance(self):
        chance = random.Random(4)
        signs = "truefalsx0 \n()[],<=5-\t\x00\xff"
        for number in range(3000):
            text = "".join(chance.choice(signs) for place in range(chance.randint(0, 20)))
            self.compare(text)

    def test_whole_formulas(self):
        chance = random.Random(5)
        answered = []
        for number in range(3000):
            tree = some_tree(chance, chance.randint(0, 6))
            text = "".join(word + chance.choice((" ", "\n", "  ", " \n ")) for word in words(tree))
            if len(text) <= 600:
                expected = -5 if size(tree) > 40 or cell_count(tree) > 100 else 0
                expected = -6 if expected == 0 and len(comparisons(tree)) > 16 else expected
                self.assertEqual(defined(text), [expected], text)
                answered.append(expected)
        self.assertEqual(sorted(set(answered)), [-5, 0])


if __name__ == "__main__":
    unittest.main()
