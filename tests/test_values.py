"""Values, words and names: what they are, how they are written and read."""

import string
import unittest

from logdelve.errors import BadText
from logdelve.values import FLAG, NUMBER, WORD, is_name, is_word, likeness, read_value, sort_of, value_text

KEPT_WORDS = "and or not has yes no by up down count sum least most unlike all within".split()
GREATEST = 10 ** 30 - 1
# From the blank to ~, but the one for hundredths.
SIGNS = [chr(code) for code in range(32, 127) if chr(code) != "%"]


class Sorts(unittest.TestCase):
    def test_the_sorts_are_texts(self):
        self.assertEqual((NUMBER, WORD, FLAG), ("number", "word", "flag"))

    def test_numbers(self):
        for value in (0, 1, -1, 7, 10 ** 29, GREATEST, -GREATEST):
            with self.subTest(value):
                self.assertEqual(sort_of(value), "number")

    def test_a_number_somewhat_beyond_thirty_figures_is_one_too(self):
        self.assertEqual(sort_of(10 ** 30), "number")
        self.assertEqual(sort_of(-(10 ** 31)), "number")

    def test_flags_are_no_numbers(self):
        self.assertEqual(sort_of(True), "flag")
        self.assertEqual(sort_of(False), "flag")

    def test_words(self):
        for value in ("a", "ann", "a1", "z9z9", "a" * 12, "yes", "no", "and", "time", "number"):
            with self.subTest(value):
                self.assertEqual(sort_of(value), "word")

    def test_texts_that_are_no_words(self):
        for value in ("", "a" * 13, "Ann", "1a", "5", "-5", "a_b", "_a", "a b", " a", "a ", "'a'", "a-b"):
            with self.subTest(value):
                self.assertIsNone(sort_of(value))

    def test_what_is_no_value(self):
        for value in (None, [], [1], ["ann"], (), (1, 2), {}, {"a": 1}, b"ann"):
            with self.subTest(value):
                self.assertIsNone(sort_of(value))


class Likeness(unittest.TestCase):
    def test_like_values_alone_have_it_in_common(self):
        values = (0, 1, -1, GREATEST, False, True, "a", "ann", "yes", None)
        for one, left in enumerate(values):
            for other, right in enumerate(values):
                with self.subTest(f"{left} {right}"):
                    self.assertIs(likeness(left) == likeness(right), one == other)


class Words(unittest.TestCase):
    def test_words(self):
        for text in ("a", "z", "ann", "a1", "a0b9", "z" * 12, "a" + "9" * 11, string.ascii_lowercase[:12]):
            with self.subTest(text):
                self.assertIs(is_word(text), True)

    def test_every_letter_and_figure(self):
        for sign in string.ascii_lowercase + string.digits:
            with self.subTest(sign):
                self.assertIs(is_word("a" + sign), True)

    def test_the_words_that_names_leave_alone(self):
        for text in KEPT_WORDS:
            with self.subTest(text):
                self.assertIs(is_word(text), True)

    def test_no_words(self):
        for text in ("", "a" * 13, "a" * 20, "1", "1a", "_", "_a", "a_", "a_b", "A", "Ann", "aNn", "anN",
                     " ", " ann", "ann ", "a nn", "a-b", "a.b", "'ann'", "-a", "a="):
            with self.subTest(text):
                self.assertIs(is_word(text), False)

    def test_every_sign_first_and_amid(self):
        for sign in SIGNS:
            with self.subTest(sign):
                self.assertIs(is_word(sign), sign in string.ascii_lowercase)
                self.assertIs(is_word(sign + "b"), sign in string.ascii_lowercase)
                self.assertIs(is_word("a" + sign + "b"), sign in string.ascii_lowercase + string.digits)


class Names(unittest.TestCase):
    def test_names(self):
        for text in ("a", "z", "user", "took", "a_b", "a_", "a__", "z" * 12, "a" + "_" * 11,
                     "time", "source", "number", "word", "flag", "from", "where", "that_x"):
            with self.subTest(text):
                self.assertIs(is_name(text), True)

    def test_every_letter(self):
        for sign in string.ascii_lowercase + "_":
            with self.subTest(sign):
                self.assertIs(is_name("a" + sign), True if "a" + sign != "by" else False)

    def test_no_names(self):
        for text in ("", "a" * 13, "a" * 20, "_", "_a", "1", "1a", "a1", "a1b", "A", "User", "uSer", "useR",
                     " ", " user", "user ", "us er", "a-b", "a.b", "'user'", "@slow", "a="):
            with self.subTest(text):
                self.assertIs(is_name(text), False)

    def test_kept_words_are_no_names(self):
        for text in KEPT_WORDS:
            with self.subTest(text):
                self.assertIs(is_name(text), False)

    def test_names_that_only_begin_or_end_like_kept_words(self):
        for text in KEPT_WORDS:
            with self.subTest(text):
                self.assertIs(is_name(text + "_"), True)
                self.assertIs(is_name("x" + text), True)
                self.assertIs(is_name(text + "x"), True)

    def test_every_sign_first_and_amid(self):
        for sign in SIGNS:
            with self.subTest(sign):
                self.assertIs(is_name(sign), sign in string.ascii_lowercase)
                self.assertIs(is_name(sign + "q"), sign in string.ascii_lowercase)
                self.assertIs(is_name("q" + sign + "q"), sign in string.ascii_lowercase + "_")


class Written(unittest.TestCase):
    def test_numbers(self):
        for value, text in ((0, "0"), (5, "5"), (-5, "-5"), (10, "10"), (-100, "-100"),
                            (GREATEST, "9" * 30), (-GREATEST, "-" + "9" * 30), (10 ** 29, "1" + "0" * 29)):
            with self.subTest(text):
                self.assertEqual(value_text(value), text)

    def test_a_number_somewhat_beyond_thirty_figures_is_no_fault(self):
        self.assertEqual(value_text(10 ** 30), "1" + "0" * 30)

    def test_flags(self):
        self.assertEqual(value_text(True), "yes")
        self.assertEqual(value_text(False), "no")

    def test_words(self):
        for value in ("a", "ann", "a1", "a" * 12, "yes", "no", "and"):
            with self.subTest(value):
                self.assertEqual(value_text(value), "'" + value + "'")


class Read(unittest.TestCase):
    def check_reads(self, text, value):
        told = read_value(text)
        self.assertEqual(told, value)
        # True equals 1 for Python, so the kind is compared as well.
        self.assertIs(type(told), type(value))

    def check_bad(self, text):
        with self.subTest(text), self.assertRaises(BadText) as caught:
            read_value(text)
        self.assertEqual(caught.exception.at, 0)

    def test_numbers(self):
        for text, value in (("0", 0), ("1", 1), ("9", 9), ("10", 10), ("-1", -1), ("-10", -10), ("100", 100),
                            ("9" * 30, GREATEST), ("-" + "9" * 30, -GREATEST), ("1" + "0" * 29, 10 ** 29)):
            with self.subTest(text):
                self.check_reads(text, value)

    def test_flags(self):
        self.check_reads("yes", True)
        self.check_reads("no", False)

    def test_words(self):
        for text, value in (("'a'", "a"), ("'ann'", "ann"), ("'a1'", "a1"), ("'" + "a" * 12 + "'", "a" * 12),
                            ("'yes'", "yes"), ("'no'", "no"), ("'and'", "and")):
            with self.subTest(text):
                self.check_reads(text, value)

    def test_what_was_written_reads_back(self):
        values = (0, 1, -1, 12, -12, GREATEST, -GREATEST, 10 ** 29, True, False, "a", "ann", "a1", "x" * 12, "yes")
        for value in values:
            with self.subTest(value):
                self.check_reads(value_text(value), value)

    def test_wrong_numbers(self):
        for text in ("00", "01", "007", "-0", "-00", "-01", "-", "--1", "+5", "+0", "5-", "1-2", "- 5",
                     "1" * 31, "-" + "1" * 31, "0" * 31, "1_000", "1.5", "1e5", "0x1", "5a", "a5"):
            self.check_bad(text)

    def test_blanks(self):
        for text in (" ", "  ", " 5", "5 ", " 5 ", "1 0", " yes", "yes ", " 'ann'", "'ann' ", "' ann'", "'ann '"):
            self.check_bad(text)

    def test_wrong_words(self):
        for text in ("ann", "'ann", "ann'", "'", "''", "'''", "''ann''", "'Ann'", "'1a'", "'5'", "'a_b'", "'_a'",
                     "'a b'", "'" + "a" * 13 + "'", '"ann"', "'an'n'"):
            self.check_bad(text)

    def test_wrong_flags(self):
        for text in ("Yes", "YES", "No", "y", "n", "yesno", "True", "False", "true", "-yes", "yes'"):
            self.check_bad(text)

    def test_other_texts(self):
        for text in ("", "~", "=", "=5", "a=5", "@slow", "(5)", "None"):
            self.check_bad(text)
