"""What terms come to, and of which sort they are."""

import itertools
import unittest

from logdelve.errors import BadTerm
from logdelve.terms import read_term
from logdelve.worths import sort_of_term, worth_of

FIELDS = {"n": 7, "nought": 0, "w": "ann", "y": True, "f": False}
KINDS = {"n": "number", "w": "word", "f": "flag", "nn": "number", "ww": "word", "ff": "flag"}
SORTS = ("number", "word", "flag")
BY_SORT = {"number": ("field", "n"), "word": ("field", "w"), "flag": ("field", "f")}
LACKING = ("field", "none")
YES, NO = ("flag", True), ("flag", False)


def worth(text, fields=None):
    return worth_of(read_term(text), FIELDS if fields is None else fields)


class Worths(unittest.TestCase):
    def check(self, text, value, fields=None):
        with self.subTest(text):
            told = worth(text, fields)
            self.assertEqual(told, value)
            self.assertIs(type(told), type(value))

    def test_values(self):
        for text, value in (("5", 5), ("-5", -5), ("0", 0), ("'ann'", "ann"), ("yes", True), ("no", False)):
            self.check(text, value)
            self.check(text, value, {})

    def test_fields(self):
        for name, value in FIELDS.items():
            self.check(name, value)
        self.check("none", None)
        self.check("n", None, {})

    def test_has(self):
        for name in FIELDS:
            self.check("has " + name, True)
            self.check("has " + name, False, {})
        self.check("has none", False)
        self.check("not has none", True)

    def test_not(self):
        self.check("not yes", False)
        self.check("not no", True)
        self.check("not y", False)
        self.check("not f", True)
        self.check("not not y", True)
        self.check("not none", None)
        self.check("not not none", None)

    def test_sums_and_products(self):
        for text, value in (("2 + 3", 5), ("2 - 3", -1), ("2 * 3", 6), ("n + n", 14), ("n - n", 0), ("n * nought", 0),
                            ("-2 * -3", 6), ("-2 - -3", 1), ("2 + 3 * 4", 14), ("(2 + 3) * 4", 20), ("9 - 3 - 2", 4),
                            ("9 - (3 - 2)", 8), ("n * -1", -7)):
            self.check(text, value)

    def test_great_numbers(self):
        great = 10 ** 30 - 1
        self.check("9" * 30 + " * " + "9" * 30, great * great)
        self.check("-" + "9" * 30 + " - 1", -great - 1)

    def test_comparisons_of_numbers(self):
        for left, right in itertools.product((-2, 0, 3), (-2, 0, 3)):
            self.check(f"{left} = {right}", left == right)
            self.check(f"{left} != {right}", left != right)
            self.check(f"{left} < {right}", left < right)
            self.check(f"{left} <= {right}", left <= right)
            self.check(f"{left} > {right}", left > right)
            self.check(f"{left} >= {right}", left >= right)

    def test_comparisons_of_words_and_flags(self):
        self.check("w = 'ann'", True)
        self.check("w = 'bob'", False)
        self.check("w != 'ann'", False)
        self.check("w != 'bob'", True)
        self.check("y = yes", True)
        self.check("y = f", False)
        self.check("y != f", True)
        self.check("f != no", False)
        self.check("has n = has none", False)

    def test_yes_is_not_like_one_and_no_not_like_nought(self):
        for one, other in (("yes", "1"), ("1", "yes"), ("no", "0"), ("0", "no"), ("y", "1"), ("nought", "f")):
            self.check(f"{one} = {other}", False)
            self.check(f"{one} != {other}", True)

    def test_a_part_that_lacks_on_either_side(self):
        for sign in ("=", "!=", "<", "<=", ">", ">=", "+", "-", "*"):
            self.check(f"none {sign} n", None)
            self.check(f"n {sign} none", None)
            self.check(f"none {sign} none", None)
            self.check(f"nought {sign} none", None)
            self.check(f"none {sign} nought", None)
            self.check(f"(none {sign} 1) {sign} 1", None)
        for sign in ("=", "!="):
            self.check(f"none {sign} w", None)
            self.check(f"f {sign} none", None)
            self.check(f"none {sign} no", None)

    def test_noughts_and_no_do_not_lack(self):
        self.check("nought = 0", True)
        self.check("nought + nought", 0)
        self.check("f = no", True)
        self.check("nought < 1", True)

    def test_and_over_all_pairs(self):
        wanted = {
            (True, True): True, (True, False): False, (True, None): None,
            (False, True): False, (False, False): False, (False, None): False,
            (None, True): None, (None, False): False, (None, None): None,
        }
        self.check_pairs("and", wanted)

    def test_or_over_all_pairs(self):
        wanted = {
            (True, True): True, (True, False): True, (True, None): True,
            (False, True): True, (False, False): False, (False, None): None,
            (None, True): True, (None, False): None, (None, None): None,
        }
        self.check_pairs("or", wanted)

    def check_pairs(self, sign, wanted):
        self.assertEqual(len(wanted), 9)
        for (left, right), value in wanted.items():
            fields = {name: flag for name, flag in (("a", left), ("b", right)) if flag is not None}
            self.check(f"a {sign} b", value, fields)
            self.check(f"not not a {sign} (b = yes)", value, fields)

    def test_parts_that_lack_far_within(self):
        self.check("none > 5 or n > 5", True)
        self.check("none > 5 and n > 5", None)
        self.check("none > 5 and n > 9", False)
        self.check("not (none > 5 and n > 9)", True)
        self.check("not (none > 5) or has none", None)

    def test_a_long_sum(self):
        self.check("n" + "+1" * 900, 907)
        self.check("y" + " and y" * 300 + " and f", False)

    def test_the_dict_stays_as_it_was(self):
        fields = {"n": 7, "w": "ann"}
        for text in ("n + none", "has none", "has n and w = 'ann'", "none"):
            worth(text, fields)
        self.assertEqual(list(fields.items()), [("n", 7), ("w", "ann")])

    def test_the_dict_is_not_kept(self):
        fields = {"n": 7}
        term = read_term("n + 1")
        self.assertEqual(worth_of(term, fields), 8)
        fields["n"] = 1
        self.assertEqual(worth_of(term, fields), 2)


class Sorts(unittest.TestCase):
    def check(self, term, sort, kinds=None):
        with self.subTest(term):
            self.assertEqual(sort_of_term(term, KINDS if kinds is None else kinds), sort)

    def check_bad(self, term, kinds=None):
        with self.subTest(term), self.assertRaises(BadTerm):
            sort_of_term(term, KINDS if kinds is None else kinds)

    def test_values(self):
        self.check(("number", 5), "number")
        self.check(("word", "ann"), "word")
        self.check(("flag", True), "flag")
        self.check(("flag", False), "flag", {})

    def test_fields(self):
        for name, sort in KINDS.items():
            self.check(("field", name), sort)
            self.check(("has", name), "flag")

    def test_a_field_that_is_not_there(self):
        self.check_bad(LACKING)
        self.check_bad(("has", "none"))
        self.check_bad(("field", "n"), {})
        self.check_bad(("has", "n"), {})

    def test_a_field_that_is_not_there_anywhere(self):
        for text in ("none + 1", "1 + none", "not none", "not has none", "yes or has none", "has none and no", "1 = none",
                     "none = none", "none < 1", "yes and (no or not (n = 1 + none))"):
            self.check_bad(read_term(text))

    def test_not(self):
        self.check(("not", BY_SORT["flag"]), "flag")
        self.check_bad(("not", BY_SORT["number"]))
        self.check_bad(("not", BY_SORT["word"]))

    def test_signs_that_want_one_sort(self):
        wanted = {"and": ("flag", "flag"), "or": ("flag", "flag")}
        wanted.update({sign: ("number", "number") for sign in "+-*"})
        wanted.update({sign: ("number", "flag") for sign in ("<", "<=", ">", ">=")})
        for sign, (part, whole) in wanted.items():
            for left, right in itertools.product(SORTS, SORTS):
                term = (sign, BY_SORT[left], BY_SORT[right])
                if left == right == part:
                    self.check(term, whole)
                else:
                    self.check_bad(term)

    def test_signs_that_want_two_of_one_sort(self):
        for sign in ("=", "!="):
            for left, right in itertools.product(SORTS, SORTS):
                term = (sign, BY_SORT[left], BY_SORT[right])
                if left == right:
                    self.check(term, "flag")
                else:
                    self.check_bad(term)

    def test_flags_are_no_numbers(self):
        self.check_bad(("+", YES, ("number", 1)))
        self.check_bad(("=", YES, ("number", 1)))
        self.check_bad(("!=", ("number", 0), NO))
        self.check_bad(("and", YES, ("number", 1)))
        self.check_bad(("<", NO, YES))

    def test_parts_far_within(self):
        self.check(read_term("not n + nn * 2 > 5 and w = ww or ff"), "flag")
        self.check(read_term("(n > 5) = (w = ww)"), "flag")
        self.check(read_term("n * (nn - 3)"), "number")
        self.check_bad(read_term("n * (nn - w)"))
        self.check_bad(read_term("(n = 5) + 1"))
        self.check_bad(read_term("(n = nn) = 1"))
        self.check_bad(read_term("f or (ff and (f or not n))"))

    def test_a_long_sum(self):
        self.check(read_term("n" + "+1" * 900), "number")
        self.check_bad(read_term("w" + "+1" * 900))
        self.check_bad(read_term("n" + "+1" * 900 + "+w"))

    def test_the_dict_stays_as_it_was(self):
        kinds = {"n": "number"}
        sort_of_term(read_term("n + 1"), kinds)
        self.check_bad(read_term("n + none"), kinds)
        self.assertEqual(kinds, {"n": "number"})
