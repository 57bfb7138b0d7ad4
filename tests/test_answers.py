"""What the stages make of rows, each by itself, and which rows are read."""

import itertools
import unittest

from logdelve.answers import answer_of
from logdelve.errors import BadStage, NoName
from logdelve.questions import read_question
from tests.helper import KINDS, SOURCES, ask, kind_and_value


def row(time, number, source="web", **fields):
    return (time, source, number, fields)


def plain(time, number, source="web", **fields):
    """Tell a flat row."""
    return {**fields, "time": time, "source": source, "number": number}


class Asked(unittest.TestCase):
    def check(self, text, rows, wanted, **known):
        with self.subTest(text):
            told = ask(text, rows, **known)
            self.assertIs(type(told), list)
            self.assertEqual(kind_and_value(told), kind_and_value(wanted))

    def check_field(self, text, rows, name, wanted, **known):
        """Check the values of one field, None where it lacks."""
        with self.subTest(text):
            told = [fields.get(name) for fields in ask(text, rows, **known)]
            self.assertEqual(kind_and_value(told), kind_and_value(wanted))

    def numbers(self, text, rows, **known):
        return [fields["number"] for fields in ask(text, rows, **known)]


class From(Asked):
    ROWS = [row(5, 0, "web", took=3), row(5, 0, "app"), row(1, 9, "web", user="ann", done=False), row(5, 1, "db_two")]
    FLAT = [
        {"time": 1, "source": "web", "number": 9, "user": "ann", "done": False},
        {"time": 5, "source": "app", "number": 0},
        {"time": 5, "source": "db_two", "number": 1},
        {"time": 5, "source": "web", "number": 0, "took": 3},
    ]

    def test_no_rows(self):
        self.check("from all", [], [])
        self.check("from web", [], [])
        self.check("from web", [row(1, 1, "app")], [])

    def test_one_row(self):
        self.check("from all", [row(1, 2, user="ann")], [{"time": 1, "source": "web", "number": 2, "user": "ann"}])

    def test_all_sources_in_any_order(self):
        for rows in itertools.permutations(self.ROWS):
            self.check("from all", list(rows), self.FLAT)

    def test_named_sources(self):
        self.check("from web", self.ROWS, [self.FLAT[0], self.FLAT[3]])
        self.check("from app", self.ROWS, [self.FLAT[1]])
        self.check("from db_two", self.ROWS, [self.FLAT[2]])

    def test_several_named_sources_stand_in_the_order_of_rows(self):
        for text in ("from web app", "from app web"):
            self.check(text, self.ROWS, [self.FLAT[0], self.FLAT[1], self.FLAT[3]])
        self.check("from web db_two app", self.ROWS, self.FLAT)

    def test_rows_stand_by_time_then_source_then_number(self):
        rows = [row(time, number, source) for time in (10, 9, -1) for source in ("web", "app") for number in (10, 9)]
        wanted = [plain(time, number, source) for time in (-1, 9, 10) for source in ("app", "web") for number in (9, 10)]
        self.check("from all", rows, wanted)

    def test_a_source_is_not_taken_for_one_that_begins_like_it(self):
        rows = [row(1, 0, "we"), row(1, 0, "web")]
        self.check("from we", rows, [plain(1, 0, "we")], sources=["we", "web"])

    def test_a_kept_question(self):
        kept = {"slow": "from web | where took > 2"}
        self.check("from @slow", self.ROWS, [self.FLAT[3]], kept=kept)
        self.check("from @slow | keep took", self.ROWS, [{"took": 3}], kept=kept)

    def test_a_kept_question_that_leans_on_others(self):
        kept = {"one": "from all | first 3", "two": "from @one | sort number down", "three": "from @two | first 2"}
        self.assertEqual(self.numbers("from @one", self.ROWS, kept=kept), [9, 0, 1])
        self.assertEqual(self.numbers("from @two", self.ROWS, kept=kept), [9, 1, 0])
        self.assertEqual(self.numbers("from @three | sort number up", self.ROWS, kept=kept), [1, 9])

    def test_the_order_of_a_kept_answer_stays(self):
        kept = {"late": "from all | sort time down"}
        self.check_field("from @late", self.ROWS, "time", [5, 5, 5, 1], kept=kept)
        self.check_field("from @late | first 1", self.ROWS, "source", ["app"], kept=kept)

    def test_a_long_chain_of_kept_questions(self):
        kept = {"a": "from all"}
        names = ["a" + letter + other for letter in "bcdefghijk" for other in "bcdefghijklmnopqrstuvwxyz"]
        for ahead, name in zip(["a", *names], names):
            kept[name] = f"from @{ahead} | with took = took + 1"
        self.check_field(f"from @{names[-1]}", [row(1, 1, took=0)], "took", [len(names)], kept=kept)

    def test_a_name_that_is_not_kept(self):
        for text in ("from @none", "from @slow"):
            with self.subTest(text), self.assertRaises(NoName):
                ask(text, self.ROWS, kept={"slow": "from @none", "fast": "from all"})

    def test_no_name_goes_ahead_of_a_wrong_stage(self):
        with self.assertRaises(NoName):
            ask("from @none | keep nothing", self.ROWS)

    def test_a_wrong_question_is_not_answered(self):
        with self.assertRaises(BadStage) as caught:
            ask("from all | keep nothing", [])
        self.assertEqual(caught.exception.at, 1)


class Times(Asked):
    ROWS = [row(time, number, source) for number, time in enumerate((-5, 0, 5, 10)) for source in ("app", "web")]

    def test_since_and_until_at_below_and_above_the_times(self):
        for since, until, times in (
            (None, None, [-5, 0, 5, 10]), (5, None, [5, 10]), (4, None, [5, 10]), (6, None, [10]), (11, None, []),
            (-5, None, [-5, 0, 5, 10]), (-6, None, [-5, 0, 5, 10]), (0, None, [0, 5, 10]), (None, 5, [-5, 0]),
            (None, 6, [-5, 0, 5]), (None, 4, [-5, 0]), (None, 0, [-5]), (None, -5, []), (None, 11, [-5, 0, 5, 10]),
            (0, 10, [0, 5]), (5, 5, []), (5, 6, [5]), (10, 0, []), (6, 5, []),
        ):
            with self.subTest(f"{since} {until}"):
                self.check_field("from web", self.ROWS, "time", times, since=since, until=until)
                self.check_field("from all | where source = 'app'", self.ROWS, "time", times, since=since, until=until)

    def test_a_kept_questions_rows_too(self):
        kept = {"two": "from web | first 2"}
        self.check_field("from @two", self.ROWS, "time", [0, 5], kept=kept, since=0)
        self.check_field("from @two", self.ROWS, "time", [-5], kept=kept, until=0)

    def test_joined_rows_too(self):
        rows = [row(1, 0, "web", user="ann"), *[row(time, time, "app", user="ann") for time in range(5)]]
        text = "from web | join app by user within 100"
        self.check_field(text, rows, "that_time", [0, 1, 2, 3, 4])
        self.check_field(text, rows, "that_time", [1, 2, 3, 4], since=1)
        self.check_field(text, rows, "that_time", [], since=2)
        self.check_field(text, rows, "that_time", [0, 1, 2], until=3)
        self.check_field(text, rows, "that_time", [1, 2], since=1, until=3)

    def test_times_that_were_exchanged_are_still_read_by_the_rows_own(self):
        self.check_field("from web | with time = 1000", self.ROWS, "number", [2], since=5, until=10)

    def test_a_fold_without_names_of_no_rows(self):
        self.check("from all | fold many = count", self.ROWS, [{"many": 0}], since=6, until=5)


class Where(Asked):
    ROWS = [row(1, 0, took=5, done=True), row(2, 1, took=50, done=False), row(3, 2, done=True), row(4, 3)]

    def test_no_rows(self):
        self.check("from all | where yes", [], [])

    def test_yes_alone_is_let_by(self):
        for term, numbers in (
            ("yes", [0, 1, 2, 3]), ("no", []), ("done", [0, 2]), ("not done", [1]), ("has done", [0, 1, 2]),
            ("not has done", [3]), ("took > 5", [1]), ("took >= 5", [0, 1]), ("took < 50 or done", [0, 2]),
            ("took != 5", [1]), ("not took = 5", [1]), ("took > 5 and done", []), ("time > 2", [2, 3]),
            ("source = 'web'", [0, 1, 2, 3]), ("source = 'app'", []), ("number = 3", [3]),
        ):
            with self.subTest(term):
                self.assertEqual(self.numbers("from all | where " + term, self.ROWS), numbers)

    def test_rows_are_not_changed(self):
        self.check("from all | where took = 5", self.ROWS, [plain(1, 0, took=5, done=True)])

    def test_behind_one_another(self):
        self.assertEqual(self.numbers("from all | where has took | where not done", self.ROWS), [1])


class With(Asked):
    ROWS = [row(1, 0, took=5), row(2, 1)]

    def test_no_rows(self):
        self.check("from all | with a = 5", [], [])

    def test_a_new_field_and_where_the_term_lacks(self):
        self.check("from all | with twice = took * 2", self.ROWS, [plain(1, 0, took=5, twice=10), plain(2, 1)])

    def test_in_the_place_of_a_field_that_is_there(self):
        self.check("from all | with took = 7", self.ROWS, [plain(1, 0, took=7), plain(2, 1, took=7)])
        self.check("from all | with took = took + 1", self.ROWS, [plain(1, 0, took=6), plain(2, 1)])

    def test_an_elder_value_goes_where_the_term_lacks(self):
        rows = [row(1, 0, user="ann", took=5), row(2, 1, user="bob")]
        self.check("from all | with user = took", rows, [plain(1, 0, took=5, user=5), plain(2, 1)])
        self.check("from all | with number = took", rows, [
            {"time": 1, "source": "web", "user": "ann", "took": 5, "number": 5},
            {"time": 2, "source": "web", "user": "bob"},
        ])

    def test_values_of_each_sort(self):
        self.check_field("from all | with a = 'ann'", self.ROWS, "a", ["ann", "ann"])
        self.check_field("from all | with a = has took", self.ROWS, "a", [True, False])
        self.check_field("from all | with a = no", self.ROWS, "a", [False, False])
        self.check_field("from all | with a = 0", self.ROWS, "a", [0, 0])
        self.check_field("from all | with a = source", self.ROWS, "a", ["web", "web"])

    def test_the_three_names(self):
        self.check("from all | with time = 'x' | with source = 1 | with number = yes", [row(1, 0)], [
            {"time": "x", "source": 1, "number": True}])

    def test_behind_one_another(self):
        self.check("from all | with a = took | with took = 1 | with a = a + took", self.ROWS, [
            plain(1, 0, took=1, a=6), plain(2, 1, took=1)])


class KeepAndDrop(Asked):
    ROWS = [row(1, 0, took=5, user="ann"), row(2, 1, user="bob"), row(3, 2)]

    def test_no_rows(self):
        self.check("from all | keep took", [], [])
        self.check("from all | drop took", [], [])

    def test_keep(self):
        self.check("from all | keep took", self.ROWS, [{"took": 5}, {}, {}])
        self.check("from all | keep user took", self.ROWS, [{"took": 5, "user": "ann"}, {"user": "bob"}, {}])

    def test_keep_of_the_three_names(self):
        self.check("from all | keep time", self.ROWS, [{"time": 1}, {"time": 2}, {"time": 3}])
        self.check("from all | keep source number", self.ROWS, [{"source": "web", "number": n} for n in range(3)])

    def test_drop(self):
        self.check("from all | drop took", self.ROWS, [plain(1, 0, user="ann"), plain(2, 1, user="bob"), plain(3, 2)])
        self.check("from all | drop took user", self.ROWS, [plain(1, 0), plain(2, 1), plain(3, 2)])

    def test_drop_of_the_three_names(self):
        self.check("from all | drop time source number", self.ROWS, [{"took": 5, "user": "ann"}, {"user": "bob"}, {}])
        self.check("from all | drop time | drop number", [row(1, 0)], [{"source": "web"}])

    def test_drop_of_all(self):
        self.check("from all | drop time source number took user done", self.ROWS, [{}, {}, {}])

    def test_behind_one_another(self):
        self.check("from all | keep user took | drop user", self.ROWS, [{"took": 5}, {}, {}])


class Sort(Asked):
    def rows(self, name, values):
        """Tell rows with these values in the field, the number their place."""
        return [row(0, at, **({} if value is None else {name: value})) for at, value in enumerate(values)]

    def check_order(self, name, values, up, down):
        self.assertEqual(self.numbers(f"from all | sort {name} up", self.rows(name, values)), up)
        self.assertEqual(self.numbers(f"from all | sort {name} down", self.rows(name, values)), down)

    def test_no_rows(self):
        self.check("from all | sort took up", [], [])
        self.check("from all | sort took down", [], [])

    def test_numbers_by_size(self):
        self.check_order("took", [10, 9, -1, 100, 0], [2, 4, 1, 0, 3], [3, 0, 1, 4, 2])

    def test_words_as_texts(self):
        self.check_order("user", ["b", "ab", "a", "b1", "a1"], [2, 4, 1, 0, 3], [3, 0, 1, 4, 2])

    def test_no_ahead_of_yes(self):
        self.check_order("done", [True, False, True, False], [1, 3, 0, 2], [0, 2, 1, 3])

    def test_lacking_ones_first(self):
        self.check_order("took", [5, None, -5, None], [1, 3, 2, 0], [0, 2, 1, 3])
        self.check_order("user", ["b", None, "a"], [1, 2, 0], [0, 2, 1])
        self.check_order("done", [True, None, False], [1, 2, 0], [0, 2, 1])
        self.check_order("took", [None, None], [0, 1], [0, 1])
        self.check_order("took", [0, None, -1], [1, 2, 0], [0, 2, 1])

    def test_like_ones_stay_as_they_stood(self):
        self.check_order("took", [1, 0, 1, 0, 1], [1, 3, 0, 2, 4], [0, 2, 4, 1, 3])
        self.check_order("user", ["b", "a", "b", "a"], [1, 3, 0, 2], [0, 2, 1, 3])

    def test_sources_as_texts(self):
        rows = [row(1, 0, "web"), row(2, 1, "app"), row(3, 2, "db_two"), row(4, 3, "app")]
        self.assertEqual(self.numbers("from all | sort source up", rows), [1, 3, 2, 0])
        self.assertEqual(self.numbers("from all | sort source down", rows), [0, 2, 1, 3])

    def test_time_and_number(self):
        rows = [row(1, 7), row(2, 10), row(3, 9)]
        self.assertEqual(self.numbers("from all | sort time down", rows), [9, 10, 7])
        self.assertEqual(self.numbers("from all | sort number up", rows), [7, 9, 10])

    def test_one_sort_behind_another(self):
        rows = [row(1, 0, took=1, user="b"), row(2, 1, took=2, user="a"), row(3, 2, took=1, user="a")]
        self.assertEqual(self.numbers("from all | sort user up | sort took up", rows), [2, 0, 1])
        self.assertEqual(self.numbers("from all | sort took up | sort user up", rows), [2, 1, 0])
        self.assertEqual(self.numbers("from all | sort user up | sort took down", rows), [1, 2, 0])

    def test_rows_are_not_changed(self):
        self.check("from all | sort took up", [row(1, 0, took=2), row(2, 1, took=1)], [
            plain(2, 1, took=1), plain(1, 0, took=2)])


class First(Asked):
    ROWS = [row(time, time) for time in range(4)]

    def test_of_each_number(self):
        for many in range(7):
            self.assertEqual(self.numbers(f"from all | first {many}", self.ROWS), list(range(min(many, 4))))
        self.assertEqual(self.numbers("from all | first " + "9" * 30, self.ROWS), [0, 1, 2, 3])

    def test_no_rows(self):
        self.check("from all | first 0", [], [])
        self.check("from all | first 5", [], [])

    def test_as_they_stand(self):
        self.assertEqual(self.numbers("from all | sort time down | first 2", self.ROWS), [3, 2])
        self.assertEqual(self.numbers("from all | first 2 | sort time down", self.ROWS), [1, 0])
        self.assertEqual(self.numbers("from all | first 3 | first 2", self.ROWS), [0, 1])


class Every(Asked):
    def test_no_rows(self):
        self.check("from all | every 60", [], [])

    def test_the_greatest_multiple_that_is_not_above_the_time(self):
        for width, spans in (
            (1, {-3: -3, -1: -1, 0: 0, 1: 1, 7: 7}),
            (10, {-21: -30, -20: -20, -19: -20, -10: -10, -1: -10, 0: 0, 1: 0, 9: 0, 10: 10, 11: 10, 25: 20}),
            (7, {-8: -14, -7: -7, -1: -7, 6: 0, 7: 7, 13: 7, 14: 14}),
        ):
            rows = [row(time, 0) for time in sorted(spans)]
            self.check_field(f"from all | every {width}", rows, "span", [spans[time] for time in sorted(spans)])

    def test_great_numbers(self):
        great = 10 ** 30 - 1
        rows = [row(-great, 0), row(great, 1)]
        self.check_field("from all | every " + "9" * 30, rows, "span", [-great, great])
        self.check_field("from all | every 1" + "0" * 29, rows, "span", [-(10 ** 30), 9 * 10 ** 29])

    def test_rows_keep_their_other_fields(self):
        self.check("from all | every 10", [row(15, 0, took=3)], [plain(15, 0, took=3, span=10)])

    def test_a_time_that_lacks(self):
        rows = [row(1, 0, took=25), row(2, 1)]
        self.check("from all | with time = took | every 10", rows, [
            {"time": 25, "source": "web", "number": 0, "took": 25, "span": 20}, {"source": "web", "number": 1}])

    def test_an_elder_span_goes(self):
        rows = [row(15, 0, span="x", took=7), row(16, 1, span="y")]
        kinds = {**KINDS, "span": "word"}
        self.check_field("from all | every 10", rows, "span", [10, 10], kinds=kinds)
        self.check_field("from all | with time = took | every 5", rows, "span", [5, None], kinds=kinds)
        self.check_field("from all | every 10 | every 4", rows, "span", [12, 16], kinds=kinds)


class Sessions(Asked):
    def sessions(self, text, rows, **known):
        return [fields.get("session") for fields in ask("from all | " + text, rows, **known)]

    def test_no_rows(self):
        self.check("from all | sessions 30", [], [])
        self.check("from all | sessions 30 by user", [], [])

    def test_one_row(self):
        self.check("from all | sessions 30", [row(5, 0, took=3)], [plain(5, 0, took=3, session=0)])

    def test_more_than_the_gap_begins_the_next_session(self):
        rows = [row(time, time + 100) for time in (-50, -20, 11, 41, 72, 73)]
        self.assertEqual(self.sessions("sessions 30", rows), [0, 0, 1, 1, 2, 2])
        self.assertEqual(self.sessions("sessions 31", rows), [0, 0, 0, 0, 0, 0])
        self.assertEqual(self.sessions("sessions 29", rows), [0, 1, 2, 3, 4, 4])

    def test_the_row_right_ahead_counts_not_the_first_one(self):
        rows = [row(time, time) for time in (0, 10, 20, 30, 41)]
        self.assertEqual(self.sessions("sessions 10", rows), [0, 0, 0, 0, 1])

    def test_gap_of_nought(self):
        rows = [row(time, number) for number, time in enumerate((1, 1, 2, 2, 4))]
        self.assertEqual(self.sessions("sessions 0", rows), [0, 0, 1, 1, 2])

    def test_by_names(self):
        rows = [row(0, 0, user="a"), row(5, 1, user="b"), row(20, 2, user="a"), row(25, 3, user="b"), row(26, 4, user="b")]
        self.assertEqual(self.sessions("sessions 10", rows), [0, 0, 1, 1, 1])
        self.assertEqual(self.sessions("sessions 19 by user", rows), [0, 0, 1, 1, 1])
        self.assertEqual(self.sessions("sessions 20 by user", rows), [0, 0, 0, 0, 0])

    def test_each_group_begins_with_nought(self):
        rows = [row(0, 0, user="a"), row(100, 1, user="a"), row(200, 2, user="b")]
        self.assertEqual(self.sessions("sessions 10 by user", rows), [0, 1, 0])

    def test_by_several_names(self):
        rows = [
            row(0, 0, user="a", done=True), row(50, 1, user="a", done=False), row(51, 2, user="b", done=True),
            row(100, 3, user="a", done=True), row(101, 4, user="a", done=False), row(200, 5, user="b", done=True),
        ]
        self.assertEqual(self.sessions("sessions 10 by user done", rows), [0, 0, 0, 1, 1, 1])
        self.assertEqual(self.sessions("sessions 50 by user", rows), [0, 0, 0, 0, 0, 1])

    def test_by_names_that_lack(self):
        rows = [row(0, 0), row(1, 1, user="a"), row(50, 2), row(51, 3, user="a"), row(55, 4)]
        self.assertEqual(self.sessions("sessions 10 by user", rows), [0, 0, 1, 1, 1])
        rows = [row(0, 0, user="a"), row(50, 1, done=True), row(100, 2, user="a"), row(150, 3)]
        self.assertEqual(self.sessions("sessions 10 by user done", rows), [0, 0, 1, 0])

    def test_rows_that_do_not_stand_in_order_of_time_stand_where_they_stood(self):
        rows = [row(0, 3), row(5, 1), row(50, 2), row(100, 0)]
        text = "from all | sort number up | sessions 10"
        self.check(text, rows, [plain(100, 0, session=2), plain(5, 1, session=0), plain(50, 2, session=1),
                                plain(0, 3, session=0)])

    def test_times_that_lack(self):
        rows = [row(1, 0, took=100), row(2, 1), row(3, 2, took=0), row(4, 3, took=105), row(5, 4)]
        self.check_field("from all | with time = took | sessions 10", rows, "session", [1, None, 0, 1, None])

    def test_an_elder_session_goes(self):
        rows = [row(1, 0, session="x", took=5), row(2, 1, session="y")]
        kinds = {**KINDS, "session": "word"}
        self.check_field("from all | sessions 0", rows, "session", [0, 1], kinds=kinds)
        self.check_field("from all | with time = took | sessions 0", rows, "session", [0, None], kinds=kinds)
        self.check_field("from all | sessions 0 by session", rows, "session", [0, 0], kinds=kinds)

    def test_by_the_sessions_of_an_earlier_stage(self):
        rows = [row(time, time) for time in (0, 5, 20, 25)]
        self.assertEqual(self.sessions("sessions 10 | sessions 3 by session", rows), [0, 1, 0, 1])


class Join(Asked):
    def test_no_rows(self):
        self.check("from web | join app by user within 10", [], [])
        self.check("from web | join app by user within 10", [row(1, 0, user="ann")], [])
        self.check("from web | join app by user within 10", [row(1, 0, "app", user="ann")], [])

    def test_one_beside_one(self):
        rows = [row(5, 0, user="ann", took=3), row(7, 4, "app", user="ann", done=True)]
        self.check("from web | join app by user within 10", rows, [{
            "time": 5, "source": "web", "number": 0, "user": "ann", "took": 3,
            "that_time": 7, "that_source": "app", "that_number": 4, "that_user": "ann", "that_done": True, "apart": 2,
        }])

    def test_apart_is_the_others_time_less_its_own(self):
        rows = [row(5, 0, user="ann"), *[row(time, time, "app", user="ann") for time in (0, 5, 9)]]
        self.check_field("from web | join app by user within 10", rows, "apart", [-5, 0, 4])

    def test_within(self):
        rows = [row(5, 0, user="a"), *[row(time, time, "app", user="a") for time in range(11)]]
        self.check_field("from web | join app by user within 0", rows, "that_time", [5])
        self.check_field("from web | join app by user within 1", rows, "that_time", [4, 5, 6])
        self.check_field("from web | join app by user within 3", rows, "that_time", [2, 3, 4, 5, 6, 7, 8])
        self.check_field("from web | join app by user within 99", rows, "that_time", list(range(11)))

    def test_each_row_as_they_stand_beside_each_other_one_in_order(self):
        rows = [row(1, 5, user="a"), row(2, 6, user="a"), row(2, 9, "app", user="a"), row(1, 8, "app", user="a"),
                row(1, 7, "app", user="a")]
        text = "from web | sort time down | join app by user within 5"
        told = [(fields["number"], fields["that_number"]) for fields in ask(text, rows)]
        self.assertEqual(told, [(6, 7), (6, 8), (6, 9), (5, 7), (5, 8), (5, 9)])

    def test_the_same_value_in_the_field(self):
        rows = [row(1, 0, user="a"), row(1, 1, user="b"), row(1, 2, "app", user="b"), row(1, 3, "app", user="c")]
        told = [(fields["number"], fields["that_number"]) for fields in ask("from web | join app by user within 5", rows)]
        self.assertEqual(told, [(1, 2)])

    def test_by_a_number_and_by_a_flag(self):
        rows = [row(1, 0, took=1, done=True), row(1, 1, took=0, done=False), row(1, 2, "app", took=0, done=True)]
        self.check_field("from web | join app by took within 0", rows, "number", [1])
        self.check_field("from web | join app by done within 0", rows, "number", [0])

    def test_by_the_three_names(self):
        rows = [row(1, 0), row(2, 1), row(2, 0, "app"), row(3, 5, "app")]
        told = [(fields["time"], fields["that_time"]) for fields in ask("from web | join app by time within 9", rows)]
        self.assertEqual(told, [(2, 2)])
        told = [(fields["time"], fields["that_time"]) for fields in ask("from web | join app by number within 9", rows)]
        self.assertEqual(told, [(1, 2)])
        told = [(fields["number"], fields["that_number"]) for fields in ask("from all | join app by source within 9", rows)]
        self.assertEqual(told, [(0, 0), (0, 5), (5, 0), (5, 5)])

    def test_the_source_itself(self):
        rows = [row(1, 0, user="a"), row(2, 1, user="a")]
        self.check_field("from web | join web by user within 0", rows, "that_number", [0, 1])
        self.check_field("from web | join web by user within 1", rows, "that_number", [0, 1, 0, 1])

    def test_a_field_that_lacks_on_either_side(self):
        rows = [row(1, 0), row(1, 1, user="a"), row(1, 2, "app"), row(1, 3, "app", user="a")]
        told = [(fields["number"], fields["that_number"]) for fields in ask("from web | join app by user within 5", rows)]
        self.assertEqual(told, [(1, 3)])

    def test_a_time_that_lacks(self):
        rows = [row(1, 0, user="a", took=5), row(1, 1, user="a"), row(4, 2, "app", user="a")]
        self.check_field("from web | with time = took | join app by user within 9", rows, "number", [0])
        self.check_field("from web | with time = took | join app by user within 9", rows, "apart", [-1])
        self.check_field("from web | with time = took | join app by user within 0", rows, "apart", [])

    def test_a_field_that_was_made(self):
        rows = [row(1, 0, took=5), row(1, 1, "app", took=10), row(1, 2, "app", took=5)]
        self.check_field("from web | with took = took * 2 | join app by took within 0", rows, "that_number", [1])

    def test_all_rows_of_the_source_are_read_whatever_stands_ahead(self):
        rows = [row(1, 0, user="a", took=9), row(1, 1, "app", user="a", took=1)]
        text = "from web | where took > 5 | with user = 'a' | first 1 | join app by user within 0"
        self.check_field(text, rows, "that_took", [1])

    def test_names_of_an_earlier_join_go(self):
        rows = [row(1, 0, user="a"), row(2, 0, "app", user="a", took=3), row(4, 0, "db_two", user="a")]
        text = "from web | join app by user within 9 | join db_two by user within 9"
        self.check(text, rows, [{
            "time": 1, "source": "web", "number": 0, "user": "a",
            "that_time": 4, "that_source": "db_two", "that_number": 0, "that_user": "a", "apart": 3,
        }])

    def test_names_that_begin_with_that(self):
        rows = [row(1, 0, user="a", that_x=1, that=2, thatx=3, that_=4), row(2, 0, "app", user="a", that_x=5, apart=6)]
        kinds = {**KINDS, "that_x": "number", "that": "number", "thatx": "number", "that_": "number", "apart": "number"}
        self.check("from web | join app by user within 9", rows, [{
            "time": 1, "source": "web", "number": 0, "user": "a", "that": 2, "thatx": 3, "that_time": 2,
            "that_source": "app", "that_number": 0, "that_user": "a", "that_that_x": 5, "that_apart": 6, "apart": 1,
        }], kinds=kinds)

    def test_by_a_field_whose_name_begins_with_that(self):
        rows = [row(1, 0, that_x=1), row(1, 1, "app", that_x=1), row(1, 2, "app", that_x=2)]
        self.check_field("from web | join app by that_x within 0", rows, "that_number", [1], kinds={"that_x": "number"})

    def test_an_elder_apart_goes(self):
        rows = [row(1, 0, user="a", apart="x"), row(3, 0, "app", user="a")]
        self.check_field("from web | join app by user within 9", rows, "apart", [2], kinds={**KINDS, "apart": "word"})

    def test_a_joined_row_lacks_what_the_other_one_lacks(self):
        rows = [row(1, 0, user="a", took=5), row(1, 1, "app", user="a")]
        self.check_field("from web | join app by user within 0", rows, "that_took", [None])
        self.check_field("from web | join app by user within 0", rows, "took", [5])


class Fold(Asked):
    ROWS = [
        row(1, 0, user="b", took=5, done=True), row(2, 1, user="a", took=-7), row(3, 2, user="b", took=5),
        row(4, 3, took=1, done=False), row(5, 4, user="b"), row(6, 5),
    ]

    def test_without_names_of_no_rows(self):
        text = "from all | fold a = count, b = sum took, c = least took, d = most took, e = unlike user"
        self.check(text, [], [{"a": 0, "b": 0, "e": 0}])
        self.check("from all | fold a = least took", [], [{}])

    def test_with_names_of_no_rows(self):
        self.check("from all | fold a = count by user", [], [])

    def test_each_how(self):
        self.check("from all | fold a = count", self.ROWS, [{"a": 6}])
        self.check("from all | fold a = sum took", self.ROWS, [{"a": 4}])
        self.check("from all | fold a = least took", self.ROWS, [{"a": -7}])
        self.check("from all | fold a = most took", self.ROWS, [{"a": 5}])
        self.check("from all | fold a = unlike took", self.ROWS, [{"a": 3}])

    def test_unlike_of_each_sort(self):
        self.check("from all | fold a = unlike user, b = unlike done, c = unlike time, d = unlike source", self.ROWS, [
            {"a": 2, "b": 2, "c": 6, "d": 1}])

    def test_several_things_by_a_name(self):
        text = "from all | fold n = count, s = sum took, l = least took, m = most took, u = unlike took by user"
        self.check(text, self.ROWS, [
            {"user": "b", "n": 3, "s": 10, "l": 5, "m": 5, "u": 1},
            {"user": "a", "n": 1, "s": -7, "l": -7, "m": -7, "u": 1},
            {"n": 2, "s": 1, "l": 1, "m": 1, "u": 1},
        ])

    def test_lacking_where_there_is_no_value(self):
        text = "from all | fold n = count, s = sum took, l = least took, m = most took, u = unlike took by user"
        self.check(text, [row(1, 0, user="a"), row(2, 1, user="a")], [{"user": "a", "n": 2, "s": 0, "u": 0}])

    def test_noughts_are_values(self):
        text = "from all | fold l = least took, m = most took, u = unlike took"
        self.check(text, [row(1, 0, took=0), row(2, 1)], [{"l": 0, "m": 0, "u": 1}])

    def test_by_several_names_that_lack(self):
        self.check("from all | fold n = count by user done", self.ROWS, [
            {"user": "b", "done": True, "n": 1}, {"user": "a", "n": 1}, {"user": "b", "n": 2},
            {"done": False, "n": 1}, {"n": 1},
        ])

    def test_in_the_order_of_their_first_rows(self):
        self.check_field("from all | sort time down | fold n = count by user", self.ROWS, "user", [None, "b", "a"])

    def test_by_the_three_names(self):
        rows = [row(1, 0, "web"), row(1, 1, "web"), row(2, 0, "app")]
        self.check("from all | fold n = count by source", rows, [{"source": "web", "n": 2}, {"source": "app", "n": 1}])
        self.check("from all | fold n = count by time number", rows, [
            {"time": 1, "number": 0, "n": 1}, {"time": 1, "number": 1, "n": 1}, {"time": 2, "number": 0, "n": 1}])

    def test_a_thing_called_like_its_field(self):
        self.check("from all | fold took = sum took, time = most time, user = count", self.ROWS, [
            {"took": 4, "time": 6, "user": 6}])

    def test_folds_of_folds(self):
        self.check("from all | fold n = count by user | fold most_n = most n, groups = count", self.ROWS, [
            {"most_n": 3, "groups": 3}])
        self.check("from all | fold n = count, s = sum took by user done | fold n = sum n, k = count by user", self.ROWS, [
            {"user": "b", "n": 3, "k": 2}, {"user": "a", "n": 1, "k": 1}, {"n": 2, "k": 2}])
        self.check("from all | fold a = count | fold b = count | fold c = sum b", [], [{"c": 1}])

    def test_great_sums(self):
        great = 10 ** 30 - 1
        self.check("from all | fold s = sum took", [row(n, n, took=great) for n in range(5)], [{"s": 5 * great}])


class FlagsAreNoNumbers(Asked):
    """Yes is not like 1 and no not like 0, wherever values are held against one another."""

    ROWS = [row(at, at, done=value) for at, value in enumerate((True, 1, False, 0, 1, True))]

    def test_fold(self):
        self.check("from all | fold n = count by done", self.ROWS, [
            {"done": True, "n": 2}, {"done": 1, "n": 2}, {"done": False, "n": 1}, {"done": 0, "n": 1}])
        self.check("from all | fold n = unlike done", self.ROWS, [{"n": 4}])

    def test_sessions(self):
        self.check_field("from all | sessions 3 by done", self.ROWS, "session", [0, 0, 0, 0, 0, 1])

    def test_join(self):
        rows = [*self.ROWS, row(0, 0, "app", done=True), row(0, 1, "app", done=0)]
        self.check_field("from app | join web by done within 9", rows, "that_number", [0, 5, 3])

    def test_terms(self):
        self.check_field("from all | where done = yes", self.ROWS, "number", [0, 5])
        self.check_field("from all | where done != no", self.ROWS, "number", [0, 1, 3, 4, 5])


class New(Asked):
    """Nothing that is handed in is changed or kept, each list and dict that is told is a new one."""

    TEXTS = (
        "from all", "from web", "from all | where yes", "from all | with took = 1", "from all | keep took",
        "from all | drop took", "from all | sort time down", "from all | first 9", "from all | every 10",
        "from all | sessions 10", "from all | join web by user within 9", "from all | fold n = count by user",
        "from @kept", "from @kept | where yes",
    )

    def setUp(self):
        self.rows = [row(2, 0, took=3, user="a"), row(1, 1, user="a")]
        self.sources = list(SOURCES)
        self.kinds = dict(KINDS)
        self.kept = {"kept": read_question("from all | first 9")}

    def answer(self, text):
        return answer_of(read_question(text), self.rows, sources=self.sources, kinds=self.kinds, kept=self.kept)

    def test_what_was_handed_in_stays_as_it_was(self):
        for text in self.TEXTS:
            with self.subTest(text):
                self.answer(text)
                self.assertEqual(self.rows, [row(2, 0, took=3, user="a"), row(1, 1, user="a")])
                self.assertEqual(self.sources, SOURCES)
                self.assertEqual(self.kinds, KINDS)
                self.assertEqual(self.kept, {"kept": (("from", ()), ("first", 9))})

    def test_what_was_told_can_be_changed(self):
        for text in self.TEXTS:
            with self.subTest(text):
                wanted = self.answer(text)
                told = self.answer(text)
                for fields in told:
                    self.assertEqual([one is fields for one in told].count(True), 1)
                    fields["more"] = 1
                    fields.pop("time", None)
                told.clear()
                self.assertEqual(self.answer(text), wanted)
                self.assertEqual(self.rows, [row(2, 0, took=3, user="a"), row(1, 1, user="a")])

    def test_rows_that_change_do_not_show_in_what_was_told(self):
        told = self.answer("from all")
        self.rows[0][3]["took"] = 99
        self.rows.clear()
        self.assertEqual(told[1]["took"], 3)
