"""Promise 0, define: texts, wrong words, refusals and their order."""

import unittest

from helper import NOW, cells, define, defined, facts, run, step

# What makes things deeper: how it begins, how many words that is, how it ends.
DEEPER = (("(", 1, ")"), ("not ", 1, ""), ("prev ", 1, ""), ("rose ", 1, ""), ("once ", 1, ""), ("always ", 1, ""),
          ("once[0,3]", 6, ""), ("always[1,]", 5, ""), ("count 0 1 ", 3, ""), ("since(", 2, ",true)"),
          ("since[0,9](", 7, ",true)"))


def wrong(word):
    return [-1000 - word]


def distinct(count, first=0):
    """That many unlike comparisons, with or between."""
    return " or ".join("x0 = %d" % (first + number) for number in range(count))


class Ranges(unittest.TestCase):
    def test_length(self):
        self.assertEqual(defined("true" + " " * 596), [0])
        self.assertEqual(defined("true" + " " * 597), [-1])
        self.assertEqual(defined([32] * 600), wrong(1))
        self.assertEqual(defined([32] * 601), [-1])
        self.assertEqual(defined([32] * 998), [-1])

    def test_bytes(self):
        self.assertEqual(defined([0]), wrong(1))
        self.assertEqual(defined([255]), wrong(1))
        self.assertEqual(defined([256]), [-1])
        self.assertEqual(defined([-1]), [-1])
        self.assertEqual(defined(list(b"true ") + [256]), [-1])
        self.assertEqual(defined(list(b"nonsense ") + [-1]), [-1])


class Refusals(unittest.TestCase):
    def test_numbers_of_formulas(self):
        found = run(*[define("true")] * 9)
        self.assertEqual(found, [[number] for number in range(8)] + [[-4]])

    def test_range_comes_first(self):
        calls = [define("true")] * 8 + [step(), define([256]), define([32] * 601), define("true"), define("")]
        self.assertEqual(run(*calls)[9:], [[-1], [-1], [-3], [-3]])

    def test_steps_come_before_eight_formulas(self):
        calls = [define("true")] * 8
        self.assertEqual(run(*calls, define(""))[-1], [-4])
        self.assertEqual(run(*calls, step(), define(""))[-1], [-3])

    def test_steps_without_formulas(self):
        self.assertEqual(run(step(), define("true"), NOW), [[0], [-3], [1, 0]])

    def test_a_refused_step_is_no_step(self):
        self.assertEqual(run(step(1000001), define("true")), [[-1], [0]])

    def test_wrong_word_comes_before_size_and_comparisons(self):
        self.assertEqual(defined(distinct(21) + " or"), wrong(84 + 1))
        self.assertEqual(defined(distinct(21)), [-5])

    def test_size_comes_before_comparisons(self):
        self.assertEqual(defined(distinct(17)), [-6])
        self.assertEqual(defined(distinct(20)), [-6])
        self.assertEqual(defined(distinct(21)), [-5])
        self.assertEqual(defined("count 1 60 count 1 60 ( " + distinct(17) + " )"), [-5])

    def test_after_a_refusal_all_is_as_it_was(self):
        refused = [define([300]), define(""), define("x7 = 1 or"), define("( " + distinct(8, 90) + " ) )"),
                   define(distinct(21, 90)), define("count 1 60 count 1 60 x6 = 7"), define(distinct(16, 200))]
        found = run(define("x0 = 1"), *refused, define(distinct(15, 2)), define("x1 = 5"), define("x0 = 16"), NOW)
        self.assertEqual(found[1:8], [[-1], wrong(1), wrong(5), wrong(34), [-5], [-5], [-6]])
        self.assertEqual(found[8:], [[1], [-6], [2], [0, 3, 0, 0, 0]])


class Limits(unittest.TestCase):
    def test_size(self):
        self.assertEqual(defined("not " * 39 + "true"), [0])
        self.assertEqual(defined("not " * 38 + "( true or true )"), [-5])
        self.assertEqual(defined("not " * 37 + "( true or true )"), [0])
        self.assertEqual(defined(" or ".join(["not true"] + ["true"] * 19)), [0])
        self.assertEqual(defined(" or ".join(["true"] * 20)), [0])
        self.assertEqual(defined(" or ".join(["true"] * 21)), [-5])
        self.assertEqual(defined(" and ".join(["true"] * 21)), [-5])
        self.assertEqual(defined("since(true,false)or " * 10 + "true"), [-5])
        self.assertEqual(defined("since(true,false)or " * 9 + "not not true"), [0])
        self.assertEqual(defined("since(true,false)or " * 9 + "not not not not true"), [-5])

    def test_brackets_have_no_size(self):
        self.assertEqual(defined("( " * 40 + "true" + " )" * 40), [0])
        self.assertEqual(run(define("( " * 40 + "true" + " )" * 40), facts(0))[1][0], 1)

    def test_cells(self):
        self.assertEqual(defined("count 1 60 count 1 42 true"), [0])
        self.assertEqual(defined("count 1 60 count 1 43 true"), [-5])
        self.assertEqual(defined("once [ 60 , ] always [ 38 , ] true"), [0])
        self.assertEqual(defined("once [ 60 , ] always [ 39 , ] true"), [-5])
        self.assertEqual(defined("since [ 60 , 60 ] ( once [ 37 , 60 ] true , prev true )"), [0])
        self.assertEqual(defined("since [ 60 , 60 ] ( once [ 37 , 60 ] true , prev rose true )"), [-5])

    def test_comparisons(self):
        self.assertEqual(defined(distinct(16)), [0])
        self.assertEqual(defined(distinct(17)), [-6])
        self.assertEqual(defined(distinct(16) + " or x0 = 15"), [0])

    def test_comparisons_of_several_formulas(self):
        ops = " or ".join("x3 %s 4" % op for op in ("<", "<=", "=", "!=", ">=", ">"))
        found = run(define(ops), define(ops), define(distinct(10)), define("x0 = 00 and x0 = -0"),
                    define("x1 = 0"), define("x0 != 0"), define("x0 = 10"), define("true"))
        self.assertEqual(found, [[0], [1], [2], [3], [-6], [-6], [-6], [4]])

    def test_reading_operator_and_number_make_a_comparison(self):
        found = run(define(distinct(14)), define("x1 = 0 or x0 < 0"), define("x2 = 0"), define("x1 = 0"))
        self.assertEqual(found, [[0], [1], [-6], [2]])


class Words(unittest.TestCase):
    def test_no_words(self):
        for text in ("", " ", "\n", " \n \n"):
            self.assertEqual(defined(text), wrong(1))

    def test_parted_by_blanks_line_feeds_and_brackets(self):
        for text in ("x0 < 5", "  x0\n<\n\n5 \n", "(x0 < 5)", "(x0 < 5)and(true)or(false)", "once[1,2]true",
                     "always[1,]x0 < 5", "since[0,3](true,x0 < 5)", "since(true,false)", "not(true)", "\n(\n(true))"):
            self.assertEqual(defined(text), [0], text)

    def test_other_bytes_part_nothing(self):
        for text in ("x0<5", "x0 <5", "x0< 5", "true\tor\ttrue", "true\r\n", "nottrue", "count1 1 true", "x 0 < 5",
                     "once [1,2]true\x00", "true\xa0or true", "true;", "{true}", "\x0btrue", "true\x7f", "?", "true?"):
            self.assertLess(defined(text)[0], -1000, text)
        self.assertEqual(defined("x0<5"), wrong(1))
        self.assertEqual(defined("x0 <5"), wrong(2))
        self.assertEqual(defined("x0 < 5\t"), wrong(3))
        self.assertEqual(defined("true\r\n"), wrong(1))
        self.assertEqual(defined("true \r\n"), wrong(2))

    def test_every_byte_alone_and_behind_a_word(self):
        for byte in range(256):
            expected = [0] if byte in (10, 32) else wrong(2)
            self.assertEqual(defined(list(b"true ") + [byte]), expected, byte)
            joined = [0] if byte in (10, 32) else wrong(2) if byte in b"()[]," else wrong(1)
            self.assertEqual(defined(list(b"true") + [byte]), joined, byte)

    def test_case_matters(self):
        for text in ("TRUE", "True", "X0 < 5", "NOT true", "true OR true"):
            self.assertLess(defined(text)[0], -1000, text)

    def test_words_of_the_grammar(self):
        for op in ("<", "<=", "=", "!=", ">=", ">"):
            self.assertEqual(defined("x0 %s 5" % op), [0])
        for op in ("==", "=<", "=>", "<>", "!", "~", "><", "-", "5"):
            self.assertEqual(defined("x0 %s 5" % op), wrong(2), op)
        for reading in range(8):
            self.assertEqual(defined("x%d = 1" % reading), [0])
        for reading in ("x8", "x9", "x", "x00", "x01", "x-1", "y0", "0x", "xx", "x0x"):
            self.assertEqual(defined(reading + " = 1"), wrong(1), reading)


class Numbers(unittest.TestCase):
    def test_compared_with(self):
        for number in ("0", "7", "0000005", "1000000", "-1000000", "-0", "-0000000", "-0000001", "0000000", "999999"):
            self.assertEqual(defined("x0 = " + number), [0], number)
        for number in ("00000005", "1000001", "-1000001", "9999999", "10000000", "00000000", "-00000000", "--5", "+5",
                       "5-", "-", "5.0", "1e3", "0x5", "x0", "", "1_0"):
            self.assertEqual(defined("x0 = " + number), wrong(3), number)

    def test_minus_apart(self):
        self.assertEqual(defined("x0 = - 5"), wrong(3))

    def test_minus_zero_is_zero(self):
        found = run(define("x0 = -0 or x0 = 0 or x0 = 000"), facts(0), step(0))
        self.assertEqual(found[1:], [[5, 0, 0, 1, 3], [1, 1]])

    def test_windows(self):
        for operator in ("once", "always", "since"):
            part = "( true , true )" if operator == "since" else "true"
            for window in ("[ 0 , 0 ]", "[ 5 , 5 ]", "[ 5 , ]", "[ 60 , ]", "[ 60 , 60 ]", "[ 0 , 60 ]", "[ 0 , ]",
                           "[ 0000003 , 0000004 ]"):
                self.assertEqual(defined("%s %s %s" % (operator, window, part)), [0], window)
            for window, word in (("[ 61 , ]", 3), ("[ 61 , 62 ]", 3), ("[ 0 , 61 ]", 5), ("[ 5 , 4 ]", 5),
                                 ("[ 60 , 59 ]", 5), ("[ -0 , 4 ]", 3), ("[ 0 , -0 ]", 5), ("[ 00000003 , 4 ]", 3),
                                 ("[ 3 , 00000004 ]", 5), ("[ , 4 ]", 3), ("[ ]", 3), ("[ 3 ]", 4), ("[ 3 4 ]", 4),
                                 ("[ 3 , 4 , 5 ]", 6), ("[ 3 , 4 )", 6), ("[ 3 , )", 5), ("( 3 , 4 ]", 3),
                                 ("[ 3 , , ]", 5), ("[ [ 3 , 4 ] ]", 3), ("3 , 4", 2), ("] 3 , 4 [", 2)):
                self.assertEqual(defined("%s %s %s" % (operator, window, part)), wrong(word), (operator, window))

    def test_windows_of_others(self):
        for operator in ("not", "prev", "rose", "count"):
            self.assertEqual(defined(operator + " [ 0 , 1 ] true"), wrong(2))
        self.assertEqual(defined("once [ 0 , 1 ] [ 0 , 1 ] true"), wrong(7))

    def test_count(self):
        for numbers in ("0 1", "1 1", "0 60", "60 60", "1 60", "0000001 0000002", "5 5"):
            self.assertEqual(defined("count %s true" % numbers), [0], numbers)
        for numbers, word in (("0 0", 3), ("1 0", 3), ("5 4", 3), ("60 59", 3), ("61 61", 2), ("61 5", 2), ("1 61", 3),
                              ("-0 1", 2), ("0 -1", 3), ("00000001 2", 2), ("1 00000002", 3), ("1", 3), ("", 2),
                              ("1 2 3", 4), ("1 , 2", 3)):
            self.assertEqual(defined("count %s true" % numbers), wrong(word), numbers)


class WrongWords(unittest.TestCase):
    def test_further_words(self):
        for tail in ("true", ")", "(", ",", "]", "x0", "not", "since", "nonsense", "5"):
            self.assertEqual(defined("true or false " + tail), wrong(4), tail)
            self.assertEqual(defined("x0 = 5 " + tail + " true"), wrong(4), tail)
            self.assertEqual(defined("( true ) " + tail), wrong(4), tail)

    def test_ends_where_more_is_wanted(self):
        whole = "since [ 1 , 2 ] ( not count 1 2 ( x0 < -5 and true ) , prev rose once [ 3 , ] always false or true )"
        words = whole.split(" ")
        self.assertEqual(defined(whole), [0])
        for length in range(len(words)):
            self.assertEqual(defined(" ".join(words[:length])), wrong(length + 1), length)

    def test_single_words(self):
        for word in ("and", "or", ")", "[", "]", ",", "<", "5", "-", "window", "formula"):
            self.assertEqual(defined(word), wrong(1), word)
            self.assertEqual(defined("true and " + word), wrong(3), word)
        for word in ("not", "prev", "rose", "once", "always", "count", "since", "(", "x0"):
            self.assertEqual(defined(word), wrong(2), word)

    def test_since(self):
        for text, word in (("since true", 2), ("since ( true )", 4), ("since ( true , )", 5), ("since ( , true )", 3),
                           ("since ( true , true , true )", 6), ("since ( true , true ]", 6), ("since [ ( true", 3),
                           ("since ( )", 3), ("since ( ( true , true ) )", 5)):
            self.assertEqual(defined(text), wrong(word), text)

    def test_brackets(self):
        for text, word in (("( )", 2), ("( true", 3), ("( true ]", 3), ("( true , true )", 3), ("( true ) )", 4),
                           ("( true true )", 3), ("true ( true )", 2), ("( ( true )", 5), ("[ true ]", 1)):
            self.assertEqual(defined(text), wrong(word), text)

    def test_operators_between(self):
        for text, word in (("true and", 3), ("true or", 3), ("true and and true", 3), ("true or and true", 3),
                           ("and true", 1), ("true not true", 2), ("true and not", 4), ("not and true", 2),
                           ("true since ( true , true )", 2)):
            self.assertEqual(defined(text), wrong(word), text)


class Depth(unittest.TestCase):
    def test_forty_deep(self):
        for begin, words, end in DEEPER:
            for inner in ("true", "x0 = 1"):
                self.assertEqual(defined("(" * 39 + begin + inner + end + ")" * 39), [0], begin)
        self.assertEqual(defined("since(" * 40 + "true" + ",true)" * 40), [-5])
        self.assertEqual(defined("not " * 40 + "true"), [-5])

    def test_forty_one_deep(self):
        for begin, words, end in DEEPER:
            for outer, outer_words, outer_end in DEEPER:
                text = outer * 40 + begin + "true" + end + outer_end * 40
                if len(text) <= 600:
                    self.assertEqual(defined(text), wrong(40 * outer_words + 1), (outer, begin))

    def test_forty_one_deep_and_more_after_it(self):
        for begin, words, end in DEEPER:
            for tail in ("", " nonsense", " )", " and"):
                self.assertEqual(defined("(" * 40 + begin + tail), wrong(41), (begin, tail))
        self.assertEqual(defined("(" * 41 + "true" + ")" * 41), wrong(41))
        self.assertEqual(defined("(" * 40 + "nonsense"), wrong(41))

    def test_a_fault_in_the_window_is_told_sooner(self):
        for word in ("once", "always", "since"):
            for window, wrong_word in (("[ 61", 43), ("[ 5 4", 44), ("[ 5 , 4 ]", 45), ("[ 5 , 61 ]", 45), ("[", 43),
                                       ("[ 5", 44), ("[ 5 ,", 45), ("[ 5 , 6", 46), ("[ 5 , 6 )", 46), ("[ , 6", 43),
                                       ("[ 5 , 6 ]", 41), ("[ 5 , ]", 41), ("", 41), ("5", 41), ("]", 41)):
                self.assertEqual(defined("( " * 40 + word + " " + window), wrong(wrong_word), (word, window))

    def test_a_fault_in_the_numbers_of_count_is_told_sooner(self):
        for numbers, wrong_word in (("", 42), ("61", 42), ("true", 42), ("1", 43), ("1 61", 43), ("1 0", 43),
                                    ("5 4", 43), ("0 0", 43), ("0 1", 41), ("5 5 nonsense", 41), ("0 1 true", 41)):
            self.assertEqual(defined("( " * 40 + "count " + numbers), wrong(wrong_word), numbers)

    def test_and_and_or_go_no_deeper(self):
        self.assertEqual(defined("( " * 40 + "true and true or false" + " )" * 40), [0])
        self.assertEqual(defined("( " * 39 + "( true ) and ( true ) or ( false )" + " )" * 39), [0])
        self.assertEqual(defined("true or " * 70 + "( true )"), [-5])
        self.assertEqual(defined("true and " * 60 + "( true )"), [-5])

    def test_depth_goes_down_again(self):
        self.assertEqual(defined("( " * 39 + "true" + " )" * 39 + " or " + "( " * 40 + "true" + " )" * 40), [0])
        before = 40 + 1 + 40 + 1
        self.assertEqual(defined("(" * 40 + "true" + ")" * 40 + "or" + "(" * 41), wrong(before + 41))
        before = 2 + 39 + 1 + 39 + 1
        self.assertEqual(defined("since(" + "(" * 39 + "true" + ")" * 39 + "," + "(" * 40), wrong(before + 40))


class Meanings(unittest.TestCase):
    """How the words of a text hang together."""

    def truth(self, text, *readings):
        return run(define(text), step(*readings))[1][1]

    def test_and_binds_closer_than_or(self):
        self.assertEqual(self.truth("true or true and false"), 1)
        self.assertEqual(self.truth("( true or true ) and false"), 0)
        self.assertEqual(self.truth("false and true or true"), 1)
        self.assertEqual(self.truth("false and ( true or true )"), 0)

    def test_prefixes_hold_one_unit(self):
        self.assertEqual(self.truth("not true or true"), 1)
        self.assertEqual(self.truth("not ( true or true )"), 0)
        self.assertEqual(self.truth("not false and false"), 0)
        self.assertEqual(self.truth("not ( false and false )"), 1)
        self.assertEqual(self.truth("prev true or true"), 1)
        self.assertEqual(self.truth("count 1 1 false or true"), 1)
        self.assertEqual(self.truth("always false or true"), 1)
        self.assertEqual(self.truth("once false or true"), 1)
        self.assertEqual(self.truth("rose false or true"), 1)

    def test_size_of_rows(self):
        found = run(define("true or true or true"), define("true and true and true or true"), facts(0), facts(1))
        self.assertEqual([found[2][0], found[3][0]], [5, 7])

    def test_a_missing_window_is_from_0_without_an_end(self):
        for operator in ("once", "always"):
            found = run(define(operator + " x0 = 1"), define(operator + " [ 0 , ] x0 = 1"),
                        step(1), step(0), step(0), cells(0), cells(1), facts(0), facts(1))
            self.assertEqual([row[1] for row in found[2:5]], [row[2] for row in found[2:5]])
            self.assertEqual(found[5], found[6])
            self.assertEqual(found[7], found[8])


if __name__ == "__main__":
    unittest.main()
