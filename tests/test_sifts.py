"""Sifts held against one another."""

import itertools
import random
import unittest

from logdelve.errors import BadTerm, BadText, TooHard
from logdelve.sifts import alike_sifts
from logdelve.terms import read_term, term_text
from logdelve.values import sort_of
from logdelve.worths import worth_of
from tests.helper import kind_and_value

KINDS = {"a": "number", "b": "number", "w": "word", "v": "word", "f": "flag", "g": "flag", "other": "word"}


def lets_by(text, fields):
    return worth_of(read_term(text), fields) is True


class Sifts(unittest.TestCase):
    def check_alike(self, one, other, kinds=KINDS):
        with self.subTest(f"{one} ~ {other}"):
            self.assertIsNone(alike_sifts(one, other, kinds=kinds))
            self.assertIsNone(alike_sifts(other, one, kinds=kinds))

    def check_unlike(self, one, other, kinds=KINDS):
        """Check that a dict is told which parts the two, and tell it."""
        with self.subTest(f"{one} ~ {other}"):
            for left, right in ((other, one), (one, other)):
                told = alike_sifts(left, right, kinds=kinds)
                self.assertIs(type(told), dict)
                for name, value in told.items():
                    self.assertEqual(sort_of(value), kinds[name])
                self.assertNotEqual(lets_by(one, told), lets_by(other, told))
            return told

    def check_only(self, one, other, fields, kinds=KINDS):
        """Check that the two part at just these fields."""
        self.assertEqual(kind_and_value(self.check_unlike(one, other, kinds)), kind_and_value(fields))


class Alike(Sifts):
    def test_a_sift_and_itself(self):
        for text in ("yes", "no", "f", "has a", "not f", "not has w", "a = 1", "a != 1", "a < 1", "a <= 1", "a > 1",
                     "a >= 1", "w = 'x'", "w != 'x'", "f = yes", "f != no", "a < 3 and (w = 'x' or not f)"):
            self.check_alike(text, text)

    def test_texts_that_write_the_same(self):
        self.check_alike("a<3", "( ( a < 3 ) )")
        self.check_alike("a < 3 and f", "(a<3)and f")

    def test_contraries(self):
        self.check_alike("not a < 3", "a >= 3")
        self.check_alike("not a <= 3", "a > 3")
        self.check_alike("not a = 3", "a != 3")
        self.check_alike("not a != 3", "a = 3")
        self.check_alike("not w = 'x'", "w != 'x'")
        self.check_alike("not f", "f = no")
        self.check_alike("f", "f = yes")
        self.check_alike("f != no", "f = yes")
        self.check_alike("not not f", "f")
        self.check_alike("not (a < 3 and f)", "a >= 3 or not f")
        self.check_alike("not (a < 3 or f)", "a >= 3 and not f")

    def test_whole_numbers_have_nothing_between_neighbours(self):
        self.check_alike("a < 3", "a <= 2")
        self.check_alike("a > 3", "a >= 4")
        self.check_alike("a > 3 and a < 5", "a = 4")
        self.check_alike("a > 3 and a < 4", "no")
        self.check_alike("a > -2 and a < 0", "a = -1")

    def test_parts_dealt_out_exchanged_doubled(self):
        self.check_alike("a < 3 and (f or w = 'x')", "a < 3 and f or a < 3 and w = 'x'")
        self.check_alike("a < 3 or f and w = 'x'", "(a < 3 or f) and (a < 3 or w = 'x')")
        self.check_alike("a < 3 and f", "f and a < 3")
        self.check_alike("f or w = 'x' or a < 3", "a < 3 or (w = 'x' or f)")
        self.check_alike("f and f", "f")
        self.check_alike("a < 3 or a < 3", "a < 3")
        self.check_alike("a < 3 and a < 5", "a < 3")
        self.check_alike("a < 3 or a < 5", "a < 5")
        self.check_alike("f or f and a < 3", "f")
        self.check_alike("f and yes", "f")
        self.check_alike("f or no", "f")

    def test_sifts_that_no_dict_lets_by(self):
        for text in ("no", "a < 3 and a > 3", "a = 1 and a = 2", "w = 'x' and w = 'y'", "f and not f", "f and f = no",
                     "has a and not has a", "a = 1 and not has a", "not (a = 1 or a != 1)", "a != 1 and a = 1"):
            self.check_alike(text, "no")
            self.check_alike(text, "w = 'z' and w != 'z'")

    def test_sifts_that_all_dicts_let_by(self):
        for text in ("yes", "has a or not has a", "not has a or a < 3 or a >= 3", "not no", "f or not f or not has f"):
            self.check_alike(text, "yes")

    def test_the_same_for_dicts_that_have_the_field_and_that_lack_it(self):
        self.check_alike("a = 1 or a != 1", "has a")
        self.check_alike("a < 1 or a >= 1", "has a")
        self.check_alike("f or not f", "has f")
        self.check_alike("w = 'x' or not w = 'x'", "has w")
        self.check_alike("not has a or a < 3", "not (has a and a >= 3)")
        self.check_alike("has a and a < 3", "a < 3")
        self.check_alike("has f or f", "has f")
        self.check_alike("a = 1 and (w = 'x' or not w = 'x')", "a = 1 and has w")

    def test_fields_of_kinds_in_neither(self):
        self.check_alike("yes", "yes", {})
        self.check_alike("a = 1", "not a != 1", {"a": "number", "x": "flag", "y": "word", "z": "number", "zz": "flag"})


class Unlike(Sifts):
    def test_yes_and_no(self):
        self.check_unlike("yes", "no")
        self.check_unlike("yes", "no", {})

    def test_at_one_number_alone(self):
        self.check_only("a < 3", "a <= 3", {"a": 3})
        self.check_only("a < 3", "a < 4", {"a": 3})
        self.check_only("a > 3", "a >= 3", {"a": 3})
        self.check_only("a > 3", "a > 2", {"a": 3})
        self.check_only("a = 3", "no", {"a": 3})
        self.check_only("a != 3", "has a", {"a": 3})
        self.check_only("a = 0", "no", {"a": 0})
        self.check_only("a = -7", "no", {"a": -7})
        self.check_only("a < -3", "a <= -3", {"a": -3})
        self.check_only("a != 0", "a < 0 or a >= 2", {"a": 1})

    def test_between_two_constants(self):
        self.check_only("a > 3 and a < 5", "no", {"a": 4})
        self.check_only("a < 3 or a > 4", "a < 3 or a > 3", {"a": 4})
        told = self.check_unlike("a > 3 and a < 1000", "no")
        self.assertTrue(3 < told["a"] < 1000)
        told = self.check_unlike("a <= 10 or a >= 20", "has a")
        self.assertTrue(10 < told["a"] < 20)

    def test_below_the_least_and_above_the_greatest(self):
        told = self.check_unlike("a >= 3", "has a")
        self.assertLess(told["a"], 3)
        told = self.check_unlike("a <= 3", "has a")
        self.assertGreater(told["a"], 3)
        told = self.check_unlike("a > 3 and a != 10", "a > 3 and a < 10")
        self.assertGreater(told["a"], 10)
        told = self.check_unlike("a < 10 and a != 3", "a > 3 and a < 10")
        self.assertLess(told["a"], 3)

    def test_at_the_longest_numbers(self):
        most = "9" * 30
        self.check_unlike("a <= " + most, "has a")
        self.check_unlike("a >= -" + most, "has a")
        self.check_only("a < " + most, "a <= " + most, {"a": int(most)})

    def test_at_one_word(self):
        self.check_only("w = 'x'", "no", {"w": "x"})
        self.check_only("w != 'x'", "has w", {"w": "x"})
        self.check_only("w = 'x' or w = 'y'", "w = 'x'", {"w": "y"})

    def test_at_words_that_are_written_in_neither(self):
        told = self.check_unlike("w != 'x'", "no")
        self.assertNotEqual(told["w"], "x")
        self.check_unlike("has w", "no")
        words = [f"a{at}" for at in range(11)] + ["a"]
        either = " or ".join(f"w = '{word}'" for word in words)
        told = self.check_unlike(either, "has w")
        self.assertNotIn(told["w"], words)

    def test_at_one_flag(self):
        self.check_only("f", "no", {"f": True})
        self.check_only("not f", "no", {"f": False})
        self.check_only("f", "has f", {"f": False})
        self.check_only("f = no", "has f", {"f": True})

    def test_yes_is_not_one(self):
        self.check_only("a = 1", "no", {"a": 1})
        self.check_only("a = 0", "no", {"a": 0})

    def test_at_a_lacking_field_alone(self):
        for name in ("a", "w", "f"):
            self.assertNotIn(name, self.check_unlike("has " + name, "yes"))
            self.check_unlike("not has " + name, "no")
        self.check_only("has a", "yes", {})
        self.check_only("a = 1 or not a = 1", "yes", {})
        self.check_only("f or not f", "yes", {})
        self.check_only("not a < 3", "not (has a and a < 3)", {})
        self.check_only("a >= 3", "not has a or a >= 3", {})

    def test_two_and_three_fields_of_all_sorts(self):
        self.check_only("a = 1 and w = 'x'", "no", {"a": 1, "w": "x"})
        self.check_only("a = 1 and f", "a = 1 and f and has w", {"a": 1, "f": True})
        self.check_only("a = 1 and b = 2 and f = no", "no", {"a": 1, "b": 2, "f": False})
        self.check_only("a = 1 and w = 'x' and f", "no", {"a": 1, "w": "x", "f": True})
        self.check_only("w = 'x' and v = 'y' and g", "no", {"w": "x", "v": "y", "g": True})
        self.check_only("a > 3 and a < 5 and (b > 6 and b < 8)", "no", {"a": 4, "b": 7})
        self.check_only("a = 1 and b = 2 and not has w", "no", {"a": 1, "b": 2})
        self.check_unlike("a < 3", "b < 3")
        self.check_unlike("a = 1 or b = 1", "a = 1 and b = 1")

    def test_fields_of_one_sift_alone(self):
        self.check_unlike("a = 1", "w = 'x'")
        self.check_unlike("f", "g")

    def test_a_told_dict_is_new(self):
        told = alike_sifts("a < 3", "a <= 3", kinds=KINDS)
        told["a"] = 77
        self.assertEqual(alike_sifts("a < 3", "a <= 3", kinds=KINDS), {"a": 3})

    def test_handed_kinds_stay(self):
        kinds = dict(KINDS)
        alike_sifts("a < 3", "a <= 3", kinds=kinds)
        alike_sifts("a < 3", "a < 3", kinds=kinds)
        self.assertEqual(list(kinds.items()), list(KINDS.items()))

    def test_parameters_by_name(self):
        self.assertIsNone(alike_sifts(kinds=KINDS, other="a < 3", one="a <= 2"))
        self.assertEqual(alike_sifts(other="a < 3", kinds=KINDS, one="a <= 3"), {"a": 3})
        with self.assertRaises(TypeError):
            alike_sifts("f", "f", KINDS)
        with self.assertRaises(TypeError):
            alike_sifts("f", "f")


class AgainstTheModel(Sifts):
    """Sifts made by chance, held against one another by trying every dict of near values."""

    VALUES = {
        "a": [None, *range(-3, 8)], "b": [None, *range(-3, 8)], "w": [None, "x", "y", "z", "other"],
        "f": [None, True, False],
    }

    def made_part(self, chance):
        name = chance.choice("abwf")
        if chance.random() < 0.2:
            return ("has", name)
        if name == "f":
            return chance.choice([("field", "f"), ("=", ("field", "f"), ("flag", chance.random() < 0.5))])
        if name == "w":
            return (chance.choice(["=", "!="]), ("field", "w"), ("word", chance.choice("xyz")))
        return (chance.choice(["=", "!=", "<", "<=", ">", ">="]), ("field", name), ("number", chance.randint(-2, 6)))

    def made_term(self, chance, depth):
        if depth == 0 or chance.random() < 0.2:
            return self.made_part(chance)
        if chance.random() < 0.3:
            return ("not", self.made_term(chance, depth - 1))
        return (chance.choice(["and", "or"]), self.made_term(chance, depth - 1), self.made_term(chance, depth - 1))

    def model_alike(self, terms):
        names = list(self.VALUES)
        for values in itertools.product(*self.VALUES.values()):
            fields = {name: value for name, value in zip(names, values) if value is not None}
            if len({worth_of(term, fields) is True for term in terms}) == 2:
                return False
        return True

    def test_against_all_dicts(self):
        chance = random.Random(13)
        many = {True: 0, False: 0}
        while min(many.values()) < 12 or sum(many.values()) < 60:
            terms = [self.made_term(chance, 2), self.made_term(chance, 1)]
            texts = [term_text(term) for term in terms]
            if len({name for name in "abwf" for text in texts if name in text.replace("has", "").replace("and", "")}) > 3:
                continue
            alike = self.model_alike(terms)
            many[alike] += 1
            (self.check_alike if alike else self.check_unlike)(*texts)


class Refused(Sifts):
    def check_text(self, one, other, at):
        with self.subTest(f"{one} ~ {other}"), self.assertRaises(BadText) as caught:
            alike_sifts(one, other, kinds=KINDS)
        self.assertEqual(caught.exception.at, at)

    def check_refused(self, error, one, other="yes", kinds=KINDS):
        for left, right in ((one, other), (other, one)):
            with self.subTest(f"{left} ~ {right}"), self.assertRaises(error):
                alike_sifts(left, right, kinds=kinds)

    def test_texts_that_can_not_be_read(self):
        self.check_text("", "yes", 0)
        self.check_text("yes", "", 0)
        self.check_text("a <", "yes", 3)
        self.check_text("yes", "a < 3 and", 9)
        self.check_text("a < 03", "yes", 4)
        self.check_text("a < 3 < 4", "yes", 6)

    def test_the_first_goes_ahead_of_the_second(self):
        self.check_text("a < ", "f and ?", 4)
        self.check_text("f and ?", "a < ", 6)

    def test_bad_terms(self):
        for text in ("a", "5", "'x'", "w", "a + 1", "none", "has none", "none = 1", "a = 'x'", "w < 3", "not a", "f and a",
                     "f = 1", "a < f", "w < 'x'", "time > 3"):
            self.check_refused(BadTerm, text)

    def test_too_hard_comparisons(self):
        for text in ("3 > a", "3 = a", "a = b", "w = v", "f = g", "a = a", "1 = 1", "1 < 2", "'x' = 'y'", "yes = no",
                     "a + 1 < 3", "a < 1 + 2", "a * 1 = 3", "a < b + 1", "(a < 3) = yes", "f = (a < 3)", "f = (not g)",
                     "not f = f", "(f and g) = yes", "has a = yes", "f = has a", "yes and 3 > a", "no and a = b"):
            self.check_refused(TooHard, text)

    def test_fields(self):
        self.check_alike("a < 3 and b < 3 and f", "f and b < 3 and a < 3")
        self.check_refused(TooHard, "a < 3 and b < 3 and f and g")
        self.check_refused(TooHard, "a < 3 and b < 3", "f and g")
        self.check_refused(TooHard, "has a and has b and has f", "has g")
        self.check_refused(TooHard, "has a and has b and has f and has g", "has a and has b and has f and has g")

    def test_a_field_that_is_told_several_times_counts_once(self):
        self.check_alike("has a and a < 3 and has w and f and not not f", "f and has a and has w and a < 3")
        self.check_unlike("a < 3 or a > 4 or has a and f and g", "a < 3 and (g or f or has f or has g)")

    def test_twelve_and_thirteen_comparisons(self):
        twelve = " or ".join(f"a = {at}" for at in range(12))
        thirteen = " or ".join(f"a = {at}" for at in range(13))
        self.check_unlike(twelve, "yes")
        self.check_refused(TooHard, thirteen)
        self.check_refused(TooHard, twelve, "a = 1")
        six = " or ".join(f"a = {at}" for at in range(6))
        self.check_alike(six, six)
        self.check_refused(TooHard, six + " or a = 7", six)

    def test_like_comparisons_count_each(self):
        self.check_alike(" or ".join(["a = 1"] * 11), "a = 1")
        self.check_refused(TooHard, " or ".join(["a = 1"] * 12), "a = 1")
        self.check_refused(TooHard, " and ".join(["f = yes"] * 13), "f")

    def test_what_is_no_comparison_does_not_count(self):
        self.check_alike(" and ".join(["f", "has a", "not g", "yes"] * 20), "f and has a and not g")

    def test_twelve_comparisons_of_three_fields(self):
        one = " or ".join(f"a = {at} and b = {at}" for at in range(0, 6, 2))
        other = "a = 0 and b = 0 or a = 2 and b = 2 or a > 3 and a < 5 and has f"
        self.check_unlike(one, other)

    def test_two_faults_at_once(self):
        self.check_text("a", "f and", 5)
        self.check_text("f and", "a", 5)
        self.check_text("3 > a", "(", 1)
        self.check_refused(BadTerm, "a", "3 > a")
        self.check_refused(BadTerm, "3 > a and a")
        self.check_refused(BadTerm, "has none and f and g and has a and has b")
        self.check_refused(BadTerm, " or ".join(["a = 1"] * 13), "w")
        self.check_refused(BadTerm, "none", "f and g and has a and has b")
