"""Rows: their flat form, written and read."""

import itertools
import unittest

from logdelve.errors import BadText
from logdelve.rows import flat, read_row, row_text

GREATEST = 10 ** 30 - 1
BARE = (5, "web", 0, {})
FULL = (-12, "app_two", 7, {"user": "ann", "took": -30, "done": True, "late": False, "a_b": 0, "ab": GREATEST})
FULL_TEXT = "-12 app_two 7 a_b=0 ab=" + "9" * 30 + " done=yes late=no took=-30 user='ann'"


def kinds_of(fields):
    return {name: type(value) for name, value in fields.items()}


class Flat(unittest.TestCase):
    def test_a_row_without_fields(self):
        self.assertEqual(flat(BARE), {"time": 5, "source": "web", "number": 0})

    def test_a_row_with_fields(self):
        row = (-1, "web", 3, {"user": "ann", "took": 1, "done": True})
        told = flat(row)
        self.assertEqual(told, {"user": "ann", "took": 1, "done": True, "time": -1, "source": "web", "number": 3})
        self.assertIs(told["done"], True)
        self.assertIs(type(told["took"]), int)

    def test_it_is_new_each_time(self):
        fields = {"took": 1}
        row = (5, "web", 0, fields)
        one = flat(row)
        other = flat(row)
        self.assertIsNot(one, other)
        one["took"] = 2
        one["more"] = 3
        self.assertEqual(other, {"took": 1, "time": 5, "source": "web", "number": 0})
        self.assertEqual(flat(row), other)
        self.assertEqual(fields, {"took": 1})

    def test_what_was_handed_in_stays_as_it_was(self):
        fields = {"user": "ann", "took": 1}
        flat((5, "web", 0, fields))
        self.assertEqual(list(fields.items()), [("user", "ann"), ("took", 1)])

    def test_it_does_not_keep_the_dict(self):
        fields = {"took": 1}
        told = flat((5, "web", 0, fields))
        fields["took"] = 2
        self.assertEqual(told["took"], 1)


class Written(unittest.TestCase):
    def test_a_row_without_fields(self):
        self.assertEqual(row_text(BARE), "5 web 0")

    def test_times_and_numbers(self):
        self.assertEqual(row_text((0, "a", 10, {})), "0 a 10")
        self.assertEqual(row_text((-GREATEST, "a", GREATEST, {})), "-" + "9" * 30 + " a " + "9" * 30)

    def test_all_sorts_of_fields_by_rising_names(self):
        self.assertEqual(row_text(FULL), FULL_TEXT)

    def test_whatever_the_order_in_the_dict(self):
        pairs = [("a", 1), ("a_b", True), ("ab", "ann"), ("b", -5)]
        for order in itertools.permutations(pairs):
            with self.subTest(order):
                self.assertEqual(row_text((1, "web", 2, dict(order))), "1 web 2 a=1 a_b=yes ab='ann' b=-5")

    def test_what_was_handed_in_stays_as_it_was(self):
        fields = {"user": "ann", "took": 1, "done": False}
        row_text((5, "web", 0, fields))
        self.assertEqual(list(fields.items()), [("user", "ann"), ("took", 1), ("done", False)])


class Read(unittest.TestCase):
    def test_a_row_without_fields(self):
        self.assertEqual(read_row("5 web 0"), BARE)

    def test_all_sorts_of_fields(self):
        told = read_row(FULL_TEXT)
        self.assertEqual(told, FULL)
        self.assertIs(type(told), tuple)
        self.assertEqual(kinds_of(told[3]), kinds_of(FULL[3]))

    def test_times_and_numbers(self):
        for text, row in (("0 a 0", (0, "a", 0, {})), ("-7 a 12", (-7, "a", 12, {})),
                          ("9" * 30 + " a " + "9" * 30, (GREATEST, "a", GREATEST, {})),
                          ("-" + "9" * 30 + " a 1", (-GREATEST, "a", 1, {}))):
            with self.subTest(text):
                self.assertEqual(read_row(text), row)

    def test_any_name_is_a_source(self):
        for source in ("a", "a" * 12, "a_b", "time", "source", "number", "from"):
            with self.subTest(source):
                self.assertEqual(read_row("1 " + source + " 2"), (1, source, 2, {}))

    def test_names_like_the_three_are_fields(self):
        told = read_row("1 web 2 numbers=1 sources='a' that_time=no")
        self.assertEqual(told, (1, "web", 2, {"numbers": 1, "sources": "a", "that_time": False}))

    def test_what_was_written_reads_back(self):
        for row in (BARE, FULL, (0, "a", 0, {"a": 1}), (1, "a", 1, {"b": "yes", "a": True, "c": "no"})):
            with self.subTest(row):
                told = read_row(row_text(row))
                self.assertEqual(told, row)
                self.assertEqual(kinds_of(told[3]), kinds_of(row[3]))
                self.assertEqual(row_text(told), row_text(row))

    def test_the_fields_are_new_each_time(self):
        one = read_row("1 web 2 a=1")
        one[3]["a"] = 2
        self.assertEqual(read_row("1 web 2 a=1"), (1, "web", 2, {"a": 1}))

    def test_more_fields_than_few(self):
        names = [a + b for a in "acegikmoqs" for b in "acegikmoqs"]
        row = (1, "web", 2, {name: at for at, name in enumerate(names)})
        self.assertEqual(read_row(row_text(row)), row)


class Refused(unittest.TestCase):
    def check_bad(self, text, at):
        with self.subTest(text), self.assertRaises(BadText) as caught:
            read_row(text)
        self.assertEqual(caught.exception.at, at, text)

    def test_the_time(self):
        for time in ("x", "01", "-0", "00", "-", "+5", "1.5", "1" * 31, "-" + "1" * 31, "yes", "'ann'", "time=5", "5,"):
            self.check_bad(time, 0)
            self.check_bad(time + " web 0", 0)
            self.check_bad(time + " web 0 a=1", 0)

    def test_the_empty_text_lacks_a_time(self):
        self.check_bad("", 0)

    def test_the_source(self):
        for source in ("Web", "1", "web1", "_web", "a" * 13, "yes", "and", "within", "'web'", "we-b", "source=web"):
            self.check_bad("5 " + source, 1)
            self.check_bad("5 " + source + " 0", 1)
            self.check_bad("5 " + source + " 0 a=1", 1)

    def test_no_source(self):
        self.check_bad("5", 1)
        self.check_bad("5 0", 1)

    def test_the_number(self):
        for number in ("-1", "-0", "-" + "1" * 30, "x", "01", "+1", "1" * 31, "no", "'ann'", "a=1", "0,"):
            self.check_bad("5 web " + number, 2)
            self.check_bad("5 web " + number + " a=1", 2)

    def test_no_number(self):
        self.check_bad("5 web", 2)
        self.check_bad("-5 web", 2)

    def test_a_field_that_is_no_name_and_value(self):
        for field in ("a", "5", "yes", "=", "=5", "a=", "a:5", "a==5", "a=5=6", "a=1b=2", "a=5,", "a5", "'ann'", "-"):
            self.check_bad("5 web 0 " + field, 3)
            self.check_bad("5 web 0 " + field + " z=1", 3)

    def test_a_field_of_a_wrong_name(self):
        for name in ("A", "Took", "1a", "a1", "_a", "a" * 13, "a-b", "'a'", *"and or not has yes no by up down".split(),
                     *"count sum least most unlike all within".split()):
            self.check_bad("5 web 0 " + name + "=5", 3)

    def test_a_field_of_a_name_of_twelve_signs(self):
        self.assertEqual(read_row("5 web 0 " + "a" * 12 + "=5"), (5, "web", 0, {"a" * 12: 5}))

    def test_a_field_of_a_wrong_value(self):
        for value in ("ann", "'ann", "ann'", "''", "'Ann'", "'1a'", "'a_b'", "01", "-0", "-", "+5", "1" * 31,
                      "Yes", "true", "'" + "a" * 13 + "'"):
            self.check_bad("5 web 0 a=" + value, 3)
            self.check_bad("5 web 0 a=1 b=" + value, 4)
            self.check_bad("5 web 0 a=1 b=" + value + " c=2", 4)

    def test_the_three_names(self):
        for field in ("time=5", "number=5", "number=0", "source='web'", "source=web"):
            self.check_bad("5 web 0 " + field, 3)
            self.check_bad("5 web 0 a=1 " + field, 4)

    def test_a_field_told_twice(self):
        self.check_bad("5 web 0 a=1 a=1", 4)
        self.check_bad("5 web 0 a=1 a=2", 4)
        self.check_bad("5 web 0 a=1 b=2 b=2 c=3", 5)
        self.check_bad("5 web 0 a=1 b=2 a=1", 5)

    def test_neighbours_exchanged(self):
        self.check_bad("5 web 0 b=1 a=2", 4)
        self.check_bad("5 web 0 a=1 c=2 b=3 d=4", 5)
        self.check_bad("5 web 0 ab=1 a_b=2", 4)
        self.check_bad("5 web 0 ab=1 a=2", 4)

    def test_the_first_wrong_word_is_told(self):
        self.check_bad("x Web -1 a", 0)
        self.check_bad("5 Web -1 a", 1)
        self.check_bad("5 web -1 a", 2)
        self.check_bad("5 web 0 b=1 a=2 c", 4)
        self.check_bad("5 web 0 a=1 c b=1", 4)

    def test_blanks_ahead(self):
        for text in (" ", "  ", " 5 web 0", "  5 web 0", " 5 web 0 a=1"):
            self.check_bad(text, 0)

    def test_blanks_amid(self):
        self.check_bad("5  web 0", 1)
        self.check_bad("5   web 0", 1)
        self.check_bad("5 web  0", 2)
        self.check_bad("5 web 0  a=1", 3)
        self.check_bad("5 web 0 a=1  b=2", 4)
        self.check_bad("5 web 0 a = 1", 3)
        self.check_bad("5 web 0 a= 1", 3)
        self.check_bad("5 web 0 a =1", 3)
        self.check_bad("5 web 0 a='an n'", 3)

    def test_blanks_at_the_end(self):
        self.check_bad("5 ", 1)
        self.check_bad("5 web ", 2)
        self.check_bad("5 web 0 ", 3)
        self.check_bad("5 web 0  ", 3)
        self.check_bad("5 web 0 a=1 ", 4)
        self.check_bad("5 web 0 a=1  ", 4)

    def test_no_blanks(self):
        self.check_bad("5web0", 0)
        self.check_bad("5 web0", 1)
        self.check_bad("5 web 0a=1", 2)


class OneSignOff(unittest.TestCase):
    """Texts that differ in one sign from a row's: each is a row's own text, or refused."""

    def check(self, text):
        try:
            told = read_row(text)
        except BadText as caught:
            self.assertTrue(0 <= caught.at <= len(text.split(" ")), text)
        else:
            self.assertEqual(row_text(told), text)

    def test_a_sign_left_out_put_in_or_exchanged(self):
        text = "-10 web 3 a=-5 b='a1' c=yes d_e=no"
        for at in range(len(text) + 1):
            self.check(text[:at] + text[at + 1:])
            for code in range(32, 127):
                self.check(text[:at] + chr(code) + text[at:])
                self.check(text[:at] + chr(code) + text[at + 1:])

    def test_every_beginning(self):
        text = "-10 web 3 a=-5 b='a1' c=yes d_e=no"
        for at in range(len(text)):
            self.check(text[:at])
