"""The reasons of each row of an answer."""

import unittest

from logdelve.errors import NoRow
from tests.helper import ask, ask_reasons


def row(time, number, source="web", **fields):
    return (time, source, number, fields)


ROWS = [
    row(1, 10, user="a", took=1), row(2, 9, user="b"), row(3, 0, "app", user="a", took=3),
    row(4, 0, user="a", took=4), row(5, 2, "app", user="b"), row(6, 1, "db_two", took=6),
]
OWN = [("web", 10), ("web", 9), ("app", 0), ("web", 0), ("app", 2), ("db_two", 1)]


class Reasons(unittest.TestCase):
    def check(self, text, wanted, **known):
        with self.subTest(text):
            many = len(ask(text, ROWS, **known))
            told = [ask_reasons(text, at, ROWS, **known) for at in range(many)]
            self.assertEqual(told, wanted)
            for at in (-1, many, many + 1):
                with self.assertRaises(NoRow):
                    ask_reasons(text, at, ROWS, **known)

    def test_a_rows_own(self):
        self.check("from all", [[one] for one in OWN])
        self.check("from web", [[("web", 10)], [("web", 9)], [("web", 0)]])

    def test_stages_that_leave_them(self):
        self.check("from all | where took > 2", [[("app", 0)], [("web", 0)], [("db_two", 1)]])
        for stage in ("with took = 5", "with source = 'x'", "with number = 77", "keep user", "keep took", "drop number source",
                      "every 10", "sessions 1", "sessions 1 by user", "where yes", "first 99"):
            self.check("from all | " + stage, [[one] for one in OWN])
        self.check("from all | first 2", [[("web", 10)], [("web", 9)]])
        self.check("from all | first 0", [])

    def test_sort_takes_them_along(self):
        self.check("from all | sort time down", [[one] for one in OWN[::-1]])
        self.check("from all | sort took down | first 2 | keep user", [[("db_two", 1)], [("web", 0)]])

    def test_of_a_joined_row_both_sides(self):
        self.check("from web | join app by user within 9", [
            [("app", 0), ("web", 10)], [("app", 2), ("web", 9)], [("app", 0), ("web", 0)]])

    def test_rising_by_source_then_number(self):
        self.check("from web | where number = 10 | join web by user within 9", [[("web", 10)], [("web", 0), ("web", 10)]])
        self.check("from db_two | join db_two by took within 9", [[("db_two", 1)]])
        self.check("from web | fold n = count", [[("web", 0), ("web", 9), ("web", 10)]])

    def test_of_a_row_joined_twice_all_three(self):
        text = "from app | join web by user within 9 | join app by user within 9"
        self.check(text, [
            [("app", 0), ("web", 10)], [("app", 0), ("web", 0)], [("app", 2), ("web", 9)]])
        text = "from web | join app by user within 9 | where that_took = 3 | join web by user within 9"
        self.check(text, [
            [("app", 0), ("web", 10)], [("app", 0), ("web", 0), ("web", 10)],
            [("app", 0), ("web", 0), ("web", 10)], [("app", 0), ("web", 0)],
        ])

    def test_of_a_folded_row_those_of_all_its_rows(self):
        self.check("from all | fold n = count", [sorted(OWN)])
        self.check("from all | fold n = count by user", [
            [("app", 0), ("web", 0), ("web", 10)], [("app", 2), ("web", 9)], [("db_two", 1)]])

    def test_of_rows_that_have_no_value_too(self):
        self.check("from all | fold s = least took", [sorted(OWN)])

    def test_of_folds_of_folds(self):
        self.check("from all | fold n = count by user source | fold n = count by user", [
            [("app", 0), ("web", 0), ("web", 10)], [("app", 2), ("web", 9)], [("db_two", 1)]])
        self.check("from all | fold n = count by user | first 2 | fold n = sum n", [sorted(OWN[:5])])

    def test_of_a_fold_of_joined_rows_each_once(self):
        self.check("from web | join app by user within 9 | fold n = count by user", [
            [("app", 0), ("web", 0), ("web", 10)], [("app", 2), ("web", 9)]])

    def test_of_a_joined_fold(self):
        text = "from web | fold n = count, time = most time by user | join app by user within 1"
        self.check(text, [[("app", 0), ("web", 0), ("web", 10)]])

    def test_of_no_rows(self):
        self.check("from all | where no | fold n = count", [[]])
        self.check("from all | where no | fold n = count by user", [])

    def test_of_a_kept_question(self):
        kept = {"one": "from web | fold n = count by user", "two": "from @one | sort n up"}
        self.check("from @one", [[("web", 0), ("web", 10)], [("web", 9)]], kept=kept)
        self.check("from @two | keep n", [[("web", 9)], [("web", 0), ("web", 10)]], kept=kept)

    def test_since_and_until(self):
        self.check("from all", [[one] for one in OWN[2:4]], since=3, until=5)
        self.check("from all | fold n = count", [sorted(OWN[2:4])], since=3, until=5)
        self.check("from web | join app by user within 9", [[("app", 0), ("web", 0)]], since=3, until=5)

    def test_a_told_list_is_new(self):
        for text in ("from all", "from web | join app by user within 9", "from all | fold n = count"):
            with self.subTest(text):
                wanted = ask_reasons(text, 0, ROWS)
                told = ask_reasons(text, 0, ROWS)
                told.append(("web", 99))
                self.assertEqual(ask_reasons(text, 0, ROWS), wanted)
                self.assertIs(type(told), list)
                self.assertEqual({type(one) for one in told}, {tuple})
