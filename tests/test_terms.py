"""Terms: their fields, how they are written and read."""

import itertools
import random
import unittest

from logdelve.terms import fields_in, read_term, term_text
from tests.helper import fault_at, kind_and_value

A, B, C = ("field", "a"), ("field", "b"), ("field", "c")
COMPARISONS = ("=", "!=", "<", "<=", ">", ">=")
JOINERS = ("or", "and", *COMPARISONS, "+", "-", "*")
TIGHTNESS = {"or": 1, "and": 2, "not": 3, **dict.fromkeys(COMPARISONS, 4), "+": 5, "-": 5, "*": 6}
GREATEST = 10 ** 30 - 1
KEPT_WORDS = "and or not has yes no by up down count sum least most unlike all within".split()

# Terms and just how they are written.
WRITTEN = (
    (("number", 0), "0"),
    (("number", 5), "5"),
    (("number", -5), "-5"),
    (("number", GREATEST), "9" * 30),
    (("number", -GREATEST), "-" + "9" * 30),
    (("word", "ann"), "'ann'"),
    (("word", "and"), "'and'"),
    (("word", "a1"), "'a1'"),
    (("flag", True), "yes"),
    (("flag", False), "no"),
    (A, "a"),
    (("field", "from"), "from"),
    (("field", "time"), "time"),
    (("field", "that_" + "a" * 15), "that_" + "a" * 15),
    (("has", "a"), "has a"),
    (("has", "b" * 20), "has " + "b" * 20),
    (("not", A), "not a"),
    (("not", ("not", A)), "not not a"),
    (("not", ("not", ("not", ("has", "a")))), "not not not has a"),
    (("not", ("flag", False)), "not no"),
    (("or", ("or", A, B), C), "a or b or c"),
    (("or", A, ("or", B, C)), "a or (b or c)"),
    (("and", ("and", A, B), C), "a and b and c"),
    (("and", A, ("and", B, C)), "a and (b and c)"),
    (("or", ("and", A, B), C), "a and b or c"),
    (("or", A, ("and", B, C)), "a or b and c"),
    (("and", ("or", A, B), C), "(a or b) and c"),
    (("and", A, ("or", B, C)), "a and (b or c)"),
    (("not", ("and", A, B)), "not (a and b)"),
    (("not", ("or", A, B)), "not (a or b)"),
    (("and", ("not", A), B), "not a and b"),
    (("and", A, ("not", B)), "a and not b"),
    (("or", ("not", A), ("not", B)), "not a or not b"),
    (("not", ("=", A, B)), "not a = b"),
    (("=", ("not", A), B), "(not a) = b"),
    (("=", A, ("not", B)), "a = (not b)"),
    (("=", ("=", A, B), C), "(a = b) = c"),
    (("=", A, ("=", B, C)), "a = (b = c)"),
    (("=", ("<", A, B), (">=", B, C)), "(a < b) = (b >= c)"),
    (("=", ("and", A, B), ("or", A, B)), "(a and b) = (a or b)"),
    (("+", ("+", A, B), C), "a + b + c"),
    (("+", A, ("+", B, C)), "a + (b + c)"),
    (("-", ("-", A, B), C), "a - b - c"),
    (("-", A, ("-", B, C)), "a - (b - c)"),
    (("-", ("+", A, B), C), "a + b - c"),
    (("+", A, ("-", B, C)), "a + (b - c)"),
    (("*", ("*", A, B), C), "a * b * c"),
    (("*", A, ("*", B, C)), "a * (b * c)"),
    (("+", ("*", A, B), C), "a * b + c"),
    (("-", A, ("*", B, C)), "a - b * c"),
    (("*", ("+", A, B), C), "(a + b) * c"),
    (("*", A, ("-", B, C)), "a * (b - c)"),
    ((">", ("+", A, B), ("*", B, C)), "a + b > b * c"),
    (("-", A, ("number", -5)), "a - -5"),
    (("-", ("number", -1), ("number", -2)), "-1 - -2"),
    (("*", ("number", -1), ("number", -2)), "-1 * -2"),
    (("=", ("has", "a"), ("has", "b")), "has a = has b"),
    (("or", ("and", ("not", ("=", ("+", A, ("*", B, C)), C)), A), B), "not a + b * c = c and a or b"),
    (("*", ("+", ("=", ("not", ("and", ("or", A, B), C)), A), B), C), "(((not ((a or b) and c)) = a) + b) * c"),
)


def brackets_wanted(outer, inner, on_the_right):
    """Tell by the document's words whether a part stands in brackets."""
    if TIGHTNESS[inner] < TIGHTNESS[outer]:
        return True
    if TIGHTNESS[inner] > TIGHTNESS[outer]:
        return False
    return on_the_right or outer in COMPARISONS


def random_term(chance, deep):
    if deep == 0 or chance.random() < 0.2:
        return chance.choice((
            ("number", chance.randint(-20, 20)), ("word", chance.choice(("ann", "b2", "yes"))),
            ("flag", chance.random() < 0.5), ("field", chance.choice(("a", "took", "that_time"))),
            ("has", chance.choice(("a", "took"))),
        ))
    sign = chance.choice((*JOINERS, "not"))
    if sign == "not":
        return ("not", random_term(chance, deep - 1))
    return (sign, random_term(chance, deep - 1), random_term(chance, deep - 1))


class Written(unittest.TestCase):
    def test_terms_and_their_texts(self):
        for term, text in WRITTEN:
            with self.subTest(text):
                self.assertEqual(term_text(term), text)

    def test_each_sign_alone(self):
        for sign in JOINERS:
            with self.subTest(sign):
                self.assertEqual(term_text((sign, A, B)), f"a {sign} b")

    def test_each_sign_on_the_left_and_on_the_right_of_each_other_one(self):
        for outer, inner in itertools.product(JOINERS, JOINERS):
            with self.subTest(f"{outer} {inner}"):
                left = f"(a {inner} b)" if brackets_wanted(outer, inner, False) else f"a {inner} b"
                right = f"(b {inner} c)" if brackets_wanted(outer, inner, True) else f"b {inner} c"
                self.assertEqual(term_text((outer, (inner, A, B), C)), f"{left} {outer} c")
                self.assertEqual(term_text((outer, A, (inner, B, C))), f"a {outer} {right}")
                self.assertEqual(term_text((outer, (inner, A, B), (inner, B, C))), f"{left} {outer} {right}")

    def test_not_within_each_sign_and_each_sign_within_not(self):
        for sign in JOINERS:
            with self.subTest(sign):
                part = "not a" if sign in ("or", "and") else "(not a)"
                self.assertEqual(term_text((sign, ("not", A), ("not", A))), f"{part} {sign} {part}")
                whole = f"(a {sign} b)" if sign in ("or", "and") else f"a {sign} b"
                self.assertEqual(term_text(("not", (sign, A, B))), f"not {whole}")

    def test_leaves_never_stand_in_brackets(self):
        for sign in JOINERS:
            with self.subTest(sign):
                self.assertEqual(term_text((sign, ("has", "a"), ("number", -1))), f"has a {sign} -1")
                self.assertEqual(term_text((sign, ("flag", True), ("word", "b"))), f"yes {sign} 'b'")

    def test_a_long_sum(self):
        term = A
        for many in range(990):
            term = ("+", term, B)
        self.assertEqual(term_text(term), "a" + " + b" * 990)

    def test_deeper_than_what_is_read(self):
        term = A
        for many in range(20):
            term = ("-", B, term)
        self.assertEqual(term_text(term), "b - (" * 19 + "b - a" + ")" * 19)


class Fields(unittest.TestCase):
    def test_none(self):
        for term in (("number", 5), ("word", "a"), ("flag", True), ("not", ("flag", True))):
            self.assertEqual(fields_in(term), [])

    def test_one(self):
        self.assertEqual(fields_in(A), ["a"])
        self.assertEqual(fields_in(("has", "a")), ["a"])
        self.assertEqual(fields_in(("not", ("has", "b"))), ["b"])

    def test_words_are_no_fields(self):
        self.assertEqual(fields_in(("=", ("word", "b"), A)), ["a"])

    def test_each_once_in_the_order_of_their_first_places(self):
        self.assertEqual(fields_in(read_term("c + b * a - c > b")), ["c", "b", "a"])
        self.assertEqual(fields_in(read_term("has b and (c = b or has a) and a = c")), ["b", "c", "a"])
        self.assertEqual(fields_in(read_term("a = b and has a and has b and has c")), ["a", "b", "c"])
        self.assertEqual(fields_in(read_term("not has z or (y + x) * w = v")), ["z", "y", "x", "w", "v"])

    def test_left_parts_go_first_in_each_sign(self):
        for sign in JOINERS:
            with self.subTest(sign):
                self.assertEqual(fields_in((sign, ("field", "z"), ("has", "b"))), ["z", "b"])
                self.assertEqual(fields_in((sign, ("has", "z"), (sign, C, B))), ["z", "c", "b"])

    def test_of_a_long_sum(self):
        self.assertEqual(fields_in(read_term("b" + "+a" * 990 + "+c")), ["b", "a", "c"])

    def test_a_told_list_is_new(self):
        term = read_term("a + b")
        fields_in(term).append("c")
        self.assertEqual(fields_in(term), ["a", "b"])


class Read(unittest.TestCase):
    def check(self, text, term):
        with self.subTest(text):
            told = read_term(text)
            self.assertEqual(told, term)
            self.assertEqual(kind_and_value(told), kind_and_value(term))

    def test_what_was_written(self):
        for term, text in WRITTEN:
            self.check(text, term)

    def test_each_two_signs_written_and_read(self):
        for outer, inner in itertools.product(JOINERS, JOINERS):
            for term in ((outer, (inner, A, B), C), (outer, A, (inner, B, C)), ("not", (outer, A, ("not", B)))):
                self.check(term_text(term), term)

    def test_any_terms_written_and_read(self):
        chance = random.Random(5)
        for many in range(1500):
            term = random_term(chance, 5)
            text = term_text(term)
            self.check(text, term)
            self.assertEqual(term_text(read_term(text)), text)

    def test_more_blanks(self):
        self.check("  a  ", A)
        self.check("   a   +   b   ", ("+", A, B))
        self.check(" not   (  a  or  has   b )  ", ("not", ("or", A, ("has", "b"))))
        self.check("( -5 )", ("number", -5))
        self.check("  'ann'   =   a  ", ("=", ("word", "ann"), A))

    def test_no_blanks_where_none_are_needed(self):
        self.check("a+b*c", ("+", A, ("*", B, C)))
        self.check("a<=b", ("<=", A, B))
        self.check("a='ann'", ("=", A, ("word", "ann")))
        self.check("'ann'=a", ("=", ("word", "ann"), A))
        self.check("'ann'and'bob'", ("and", ("word", "ann"), ("word", "bob")))
        self.check("not(a)and(b)or(c)", ("or", ("and", ("not", A), B), C))
        self.check("(a)or(b)", ("or", A, B))
        self.check("5and a", ("and", ("number", 5), A))
        self.check("5and6", ("and", ("number", 5), ("number", 6)))
        self.check("not5", ("not", ("number", 5)))
        self.check("5or not-6", ("or", ("number", 5), ("not", ("number", -6))))
        self.check("5*a", ("*", ("number", 5), A))
        self.check("a*-5", ("*", A, ("number", -5)))
        self.check("not'ann'", ("not", ("word", "ann")))

    def test_the_longer_sign_of_two_ways(self):
        for sign in ("<=", ">=", "!="):
            self.check("a" + sign + "b", (sign, A, B))
            self.check("a" + sign + "-1", (sign, A, ("number", -1)))
        self.check("nota", ("field", "nota"))
        self.check("hasa", ("field", "hasa"))
        self.check("yesno", ("field", "yesno"))
        self.check("not_", ("field", "not_"))
        self.check("anda or orb", ("or", ("field", "anda"), ("field", "orb")))
        self.check("has hasa", ("has", "hasa"))
        self.check("12345", ("number", 12345))

    def test_a_minus_with_a_figure_right_behind_it_and_without(self):
        self.check("a - 5", ("-", A, ("number", 5)))
        self.check("a- 5", ("-", A, ("number", 5)))
        self.check("a-b", ("-", A, B))
        self.check("5 - 3", ("-", ("number", 5), ("number", 3)))
        self.check("a--5", ("-", A, ("number", -5)))
        self.check("a - -5", ("-", A, ("number", -5)))
        self.check("a-(5)", ("-", A, ("number", 5)))
        self.check("a+-5", ("+", A, ("number", -5)))
        self.check("-5-a", ("-", ("number", -5), A))
        self.check("a=-5", ("=", A, ("number", -5)))

    def test_needless_brackets(self):
        self.check("(a)", A)
        self.check("((a))", A)
        self.check("(((5)))", ("number", 5))
        self.check("('ann')", ("word", "ann"))
        self.check("(yes)", ("flag", True))
        self.check("(has a)", ("has", "a"))
        self.check("(not (a))", ("not", A))
        self.check("not (not a)", ("not", ("not", A)))
        self.check("(a) + (b)", ("+", A, B))
        self.check("(a + b) + c", ("+", ("+", A, B), C))
        self.check("(a * b) + c", ("+", ("*", A, B), C))
        self.check("(a = b) and (b = c)", ("and", ("=", A, B), ("=", B, C)))
        self.check("not (a = b)", ("not", ("=", A, B)))
        self.check("(a and b) or (c)", ("or", ("and", A, B), C))

    def test_brackets_change_what_is_joined(self):
        self.check("a - b - c", ("-", ("-", A, B), C))
        self.check("a - (b - c)", ("-", A, ("-", B, C)))
        self.check("(a or b) and c", ("and", ("or", A, B), C))
        self.check("a or b and c", ("or", A, ("and", B, C)))
        self.check("(a + b) * c", ("*", ("+", A, B), C))
        self.check("(a = b) = c", ("=", ("=", A, B), C))
        self.check("(not a) = b", ("=", ("not", A), B))

    def test_names_of_twenty_signs(self):
        self.check("a" * 20, ("field", "a" * 20))
        self.check("has " + "b_" * 10, ("has", "b_" * 10))

    def test_a_long_sum(self):
        text = "1" + "+1" * 990
        self.assertEqual(term_text(read_term(text)), "1" + " + 1" * 990)

    def test_a_term_of_two_thousand_signs(self):
        text = ("(a = 1 or has b) and not c < 22 and " * 60)[:2000 - 8] + "z"
        text = text[:text.rindex(" and ")]
        self.assertEqual(term_text(read_term(text)), text)


class Deep(unittest.TestCase):
    def test_brackets_twelve_deep(self):
        self.assertEqual(read_term("(" * 12 + "a" + ")" * 12), A)

    def test_brackets_thirteen_deep(self):
        self.assertEqual(fault_at(read_term, "(" * 13 + "a" + ")" * 13), 12)
        self.assertEqual(fault_at(read_term, "( " * 13 + "a" + ")" * 13), 24)
        self.assertEqual(fault_at(read_term, "(" * 40 + "a" + ")" * 40), 12)

    def test_nots_twelve_deep(self):
        self.assertEqual(term_text(read_term("not " * 12 + "a")), "not " * 12 + "a")

    def test_nots_thirteen_deep(self):
        self.assertEqual(fault_at(read_term, "not " * 13 + "a"), 48)
        self.assertEqual(fault_at(read_term, "not " * 30 + "a"), 48)

    def test_mixed(self):
        self.assertEqual(fault_at(read_term, "not (" * 6 + "a" + ")" * 6), None)
        self.assertEqual(fault_at(read_term, "not (" * 6 + "(a)" + ")" * 6), 30)
        self.assertEqual(fault_at(read_term, "not (" * 6 + "not a" + ")" * 6), 30)
        self.assertEqual(fault_at(read_term, "(" * 6 + "not " * 6 + "a" + ")" * 6), None)
        self.assertEqual(fault_at(read_term, "(" * 6 + "not " * 7 + "a" + ")" * 6), 30)
        self.assertEqual(fault_at(read_term, "not " * 6 + "(" * 7 + "a" + ")" * 7), 30)
        self.assertEqual(fault_at(read_term, "(" * 12 + "not a" + ")" * 12), 12)
        self.assertEqual(fault_at(read_term, "not " * 12 + "(a)"), 48)

    def test_beside_one_another_is_not_deep(self):
        self.assertEqual(fault_at(read_term, " and ".join(["not (a)"] * 30)), None)
        self.assertEqual(fault_at(read_term, "+".join(["(" * 12 + "a" + ")" * 12] * 5)), None)
        self.assertEqual(fault_at(read_term, "not a or " * 30 + "not a"), None)
        self.assertEqual(fault_at(read_term, "(" * 12 + "a" + ")" * 12 + " and " + "not " * 12 + "a"), None)
        self.assertEqual(fault_at(read_term, "not a and " + "(" * 12 + "a" + ")" * 12), None)

    def test_behind_an_opened_one(self):
        self.assertEqual(fault_at(read_term, "(a and not b and " + "(" * 11 + "a" + ")" * 12), None)
        self.assertEqual(fault_at(read_term, "(a and not b and " + "(" * 12 + "a" + ")" * 13), 28)

    def test_has_is_not_counted(self):
        self.assertEqual(read_term("(" * 12 + "has a" + ")" * 12), ("has", "a"))


class Faults(unittest.TestCase):
    def check(self, text, at):
        with self.subTest(text):
            self.assertEqual(fault_at(read_term, text), at)

    def test_each_sign_that_is_none(self):
        for sign in "!\"#$&./:;?[\\]^`{}~_ABCXYZ":
            self.check(sign, 0)
            self.check("a " + sign, 2)
            self.check("a + " + sign + " b", 4)
            self.check(sign + "a", 0)
            self.check("(a)" + sign, 3)

    def test_what_is_no_sign_goes_first_wherever_it_stands(self):
        self.check("a b c $", 6)
        self.check(") $", 2)
        self.check("and or # $", 7)
        self.check("a + + 007", 6)
        self.check("a = b = 'Ann'", 8)
        self.check("a b " + "c" * 21, 4)
        self.check("(" * 13 + "a !", 15)
        self.check("not " * 13 + "A", 52)
        self.check("| , @ ?", 6)
        self.check("$ #", 0)
        self.check("'Ann' 007", 0)
        self.check("007 'Ann'", 0)

    def test_words_are_not_taken_for_signs_that_read_like_them(self):
        self.check("a 'and' b", 2)
        self.check("a 'or' b", 2)
        self.check("'not' a", 6)
        self.check("'has' a", 6)
        self.check("has 'a'", 4)
        self.check("'not'", None)
        self.assertEqual(read_term("'yes' = 'no'"), ("=", ("word", "yes"), ("word", "no")))
        self.assertEqual(read_term("'has' = a"), ("=", ("word", "has"), A))

    def test_signs_of_questions_are_signs(self):
        for sign in "|,@":
            self.check(sign, 0)
            self.check("a" + sign, 1)
            self.check("a + " + sign, 4)

    def test_wrong_numbers(self):
        for number in ("00", "01", "007", "-0", "-00", "-01", "1" * 31, "-" + "1" * 31, "0" * 40):
            self.check(number, 0)
            self.check("a + " + number, 4)
            self.check("(a + " + number + ")", 5)
            self.check("a " + number, 2)
            self.check("a" + number, 1)

    def test_numbers_of_thirty_figures(self):
        self.check("1" * 30, None)
        self.check("-" + "1" * 30, None)

    def test_a_figure_and_a_letter(self):
        self.check("5a", 1)
        self.check("a5", 1)
        self.check("1e5", 1)
        self.check("1_0", 1)
        self.check("a_5", 2)
        self.check("a5_b", 2)
        self.check("1.5", 1)

    def test_words_that_are_none(self):
        for word in ("''", "'Ann'", "'1a'", "'a_b'", "'a b'", "' a'", "'a '", "'-5'", "'" + "a" * 13 + "'", "'a+b'"):
            self.check(word, 0)
            self.check("a = " + word, 4)
            self.check("a=" + word + " and b", 2)
            self.check("a b" + word, 3)

    def test_words_without_their_end(self):
        for word in ("'", "'ann", "'ann and b", "'ann )", "'Ann"):
            self.check(word, 0)
            self.check("a = " + word, 4)
            self.check("a a " + word, 4)
            self.check("'ann'" + word, 5)

    def test_words_of_twelve_signs(self):
        self.check("'" + "a" * 12 + "'", None)

    def test_names_of_more_than_twenty_signs(self):
        self.check("a" * 21, 0)
        self.check("a + " + "b" * 21, 4)
        self.check("has " + "b" * 21, 4)
        self.check("a " + "b_" * 11, 2)
        self.check("5" + "b" * 21, 1)

    def test_names_begin_with_a_letter(self):
        self.check("_a", 0)
        self.check("a + _b", 4)
        self.check("has _", 4)

    def test_more_is_wanted_at_the_end(self):
        for text in ("", " ", "   ", "a +", "a + ", "a and", "a and  ", "a or", "not", "not ", "not not", "has", "has ",
                     "a =", "a <= ", "a *", "a -", "a - ", "(", "((", "(a", "(a ", "(a + b", "a + (b", "(a and (b)"):
            self.check(text, len(text))

    def test_more_is_wanted_behind_each_sign(self):
        for sign in JOINERS:
            self.check("a " + sign, 2 + len(sign))
            self.check("a " + sign + "   ", 5 + len(sign))
            self.check("(a " + sign + " )", 4 + len(sign))

    def test_something_behind_a_whole_term(self):
        for thing in ("b", "5", "-5", "'ann'", "yes", "no", "has b", "not b", "(b)", ")", "by", "up", "count", "@", "|"):
            self.check("a " + thing, 2)
            self.check("a + b " + thing, 6)
            self.check("(a) " + thing, 4)
            self.check("a = b  " + thing, 7)
            self.check("has a " + thing, 6)
            self.check("5 " + thing, 2)
            self.check("'a' " + thing, 4)

    def test_a_number_below_nought_behind_a_whole_term(self):
        self.check("a -5", 2)
        self.check("a-5", 1)
        self.check("5-3", 1)
        self.check("a + b -5", 6)

    def test_a_minus_that_has_nothing_to_take_away_from(self):
        self.check("- 5", 0)
        self.check("-a", 0)
        self.check("-(5)", 0)
        self.check("--5", 0)
        self.check("a - - 5", 4)
        self.check("a---5", 2)
        self.check("a = - 5", 4)

    def test_signs_that_have_no_left_part(self):
        for sign in JOINERS:
            self.check(sign + " a", 0)
            self.check("(" + sign + " a)", 1)
            self.check("not " + sign + " a", 4)
            self.check("a + " + sign + " a", 4)
            self.check("a or " + sign + " a", 5)

    def test_two_comparisons_that_follow_one_another(self):
        for one, other in itertools.product(COMPARISONS, COMPARISONS):
            self.check(f"a {one} b {other} c", 5 + len(one))
        self.check("a = b + c = d", 10)
        self.check("a and b = c = d", 12)
        self.check("not a = b < c", 10)
        self.check("(a = b = c)", 7)
        self.check("a = (b = c) = d", 12)
        self.check("(a = b) = c = d", 12)

    def test_comparisons_that_do_not_follow_one_another(self):
        self.check("a = b and c = d", None)
        self.check("a = b or not c = d", None)
        self.check("(a = b) = (c = d)", None)

    def test_signs_parted_by_a_blank(self):
        self.check("a < = b", 4)
        self.check("a > = b", 4)
        self.check("a ! = b", 2)
        self.check("a == b", 3)
        self.check("a =< b", 3)
        self.check("a <> b", 3)

    def test_brackets(self):
        self.check("()", 1)
        self.check("a + ()", 5)
        self.check("(a))", 3)
        self.check("a)", 1)
        self.check(")", 0)
        self.check("((a)", 4)
        self.check("(a b)", 3)
        self.check("(a", 2)
        self.check("a(b)", 1)
        self.check("(a)(b)", 3)
        self.check("(a | b)", 3)
        self.check("(a, b)", 2)

    def test_a_not_as_part_of_something_tighter(self):
        for sign in (*COMPARISONS, "+", "-", "*"):
            self.check(f"a {sign} not b", 3 + len(sign))
        self.check("a and not b", None)
        self.check("a or not b", None)

    def test_has_wants_a_field(self):
        for thing in ("5", "'a'", "(a)", "has a", "not a", "=", "+", ")"):
            self.check("has " + thing, 4)
        self.check("has(a)", 3)

    def test_kept_words_where_a_field_should_stand(self):
        for word in KEPT_WORDS:
            self.check("has " + word, 4)
            if word not in ("yes", "no"):
                self.check("a + " + word + ")", 4 if word != "has" else 7)
            if word not in ("yes", "no", "not", "has"):
                self.check(word, 0)
                self.check("a and " + word, 6)
                self.check("not " + word, 4)
                self.check("(" + word + ")", 1)

    def test_the_first_thing_that_cannot_stand(self):
        self.check("a b c", 2)
        self.check("a + ) + (", 4)
        self.check("a = b = c = d", 6)
        self.check("has 5 has 6", 4)

    def test_any_beginning_of_a_term(self):
        text = "not(a+-5<=b*3)and has c or'ann'!=d-(yes)"
        for at in range(len(text)):
            told = fault_at(read_term, text[:at])
            self.assertTrue(told is None or 0 <= told <= at, text[:at])
        self.assertIsNone(fault_at(read_term, text))
