"""Questions checked stage by stage, and the fields and sorts of their answers."""

import unittest

from logdelve.answers import fields_of
from logdelve.errors import BadStage, NoName
from logdelve.questions import read_question
from tests.helper import KINDS, SOURCES, ask, ask_fields, ask_reasons

FLAT = {"took": "number", "user": "word", "done": "flag", "time": "number", "source": "word", "number": "number"}
THAT = {
    "that_took": "number", "that_user": "word", "that_done": "flag",
    "that_time": "number", "that_source": "word", "that_number": "number",
}


class Fields(unittest.TestCase):
    def check(self, text, wanted, **known):
        with self.subTest(text):
            self.assertEqual(ask_fields(text, **known), wanted)

    def check_all(self, text, **more):
        """Check a stage behind from all that adds or changes these fields."""
        self.check("from all | " + text, {**FLAT, **more})

    def test_from(self):
        for text in ("from all", "from web", "from web app db_two"):
            self.check(text, FLAT)

    def test_from_a_store_without_fields_and_sources(self):
        three = {"time": "number", "source": "word", "number": "number"}
        self.check("from all", three, kinds={}, sources=[])
        self.check("from web", three, kinds={})

    def test_from_a_kept_question(self):
        kept = {"one": "from all | keep user took", "two": "from @one | with big = took > 9", "three": "from @two | drop took"}
        self.check("from @one", {"user": "word", "took": "number"}, kept=kept)
        self.check("from @two", {"user": "word", "took": "number", "big": "flag"}, kept=kept)
        self.check("from @three", {"user": "word", "big": "flag"}, kept=kept)
        self.check("from @three | keep big", {"big": "flag"}, kept=kept)

    def test_stages_that_leave_them(self):
        for text in ("where yes", "where took > 5 and done", "sort took up", "sort source down", "first 0", "first 9"):
            self.check_all(text)

    def test_with(self):
        self.check_all("with more = took + 1", more="number")
        self.check_all("with more = 'ann'", more="word")
        self.check_all("with more = source", more="word")
        self.check_all("with more = has took", more="flag")
        self.check_all("with took = 'ann'", took="word")
        self.check_all("with user = number", user="number")
        self.check_all("with time = yes", time="flag")
        self.check_all("with a = 1 | with b = a = 1 | with a = b", a="flag", b="flag")

    def test_keep_and_drop(self):
        self.check("from all | keep done", {"done": "flag"})
        self.check("from all | keep time user source", {"time": "number", "user": "word", "source": "word"})
        self.check("from all | drop done time number took user", {"source": "word"})
        self.check("from all | drop done time number took user source", {})

    def test_every(self):
        self.check_all("every 60", span="number")
        self.check("from all | every 60", {**FLAT, "span": "number"}, kinds={**KINDS, "span": "word"})

    def test_sessions(self):
        self.check_all("sessions 60", session="number")
        self.check_all("sessions 60 by user done", session="number")
        self.check("from all | sessions 60", {**FLAT, "session": "number"}, kinds={**KINDS, "session": "flag"})

    def test_join(self):
        self.check_all("join web by user within 5", **THAT, apart="number")
        self.check_all("with took = 'a' | join web by user within 5", **THAT, apart="number", took="word")
        self.check("from all | keep time user | join app by user within 5", {
            "time": "number", "user": "word", **THAT, "apart": "number"})

    def test_join_behind_join(self):
        text = "from all | join web by user within 5 | with that_took = 'a' | with that_more = 1 | join app by user within 5"
        self.check(text, {**FLAT, **THAT, "apart": "number"})

    def test_join_of_fields_that_begin_with_that(self):
        kinds = {"that_x": "flag", "that": "word", "apart": "word"}
        self.check("from all | join web by that within 5", {
            "that": "word", "time": "number", "source": "word", "number": "number", "that_that_x": "flag",
            "that_that": "word", "that_apart": "word", "that_time": "number", "that_source": "word",
            "that_number": "number", "apart": "number",
        }, kinds=kinds)

    def test_fold(self):
        self.check("from all | fold a = count", {"a": "number"})
        self.check("from all | fold a = count, b = sum took, c = least time, d = most number, e = unlike user by done", {
            "a": "number", "b": "number", "c": "number", "d": "number", "e": "number", "done": "flag"})
        self.check("from all | fold user = unlike user by source time", {
            "user": "number", "source": "word", "time": "number"})

    def test_what_was_told_is_new_and_what_was_handed_in_stays(self):
        kinds, sources = dict(KINDS), list(SOURCES)
        kept = {"one": read_question("from all")}
        for text in ("from all", "from @one", "from all | where yes", "from all | first 3", "from all | with took = 'a'"):
            with self.subTest(text):
                question = read_question(text)
                told = fields_of(question, sources=sources, kinds=kinds, kept=kept)
                wanted = dict(told)
                told["more"] = "number"
                del told["time"]
                self.assertEqual(fields_of(question, sources=sources, kinds=kinds, kept=kept), wanted)
                self.assertEqual((kinds, sources), (KINDS, SOURCES))


class Wrong(unittest.TestCase):
    def check(self, text, at, **known):
        with self.subTest(text):
            for asked in (lambda: ask_fields(text, **known), lambda: ask(text, [], **known),
                          lambda: ask_reasons(text, 0, [], **known)):
                with self.assertRaises(BadStage) as caught:
                    asked()
                self.assertEqual(caught.exception.at, at)

    def check_later(self, text, **known):
        """Check a wrong stage at several numbers."""
        self.check("from all | " + text, 1, **known)
        self.check("from web | first 3 | where yes | " + text, 3, **known)

    def check_good(self, text, **known):
        with self.subTest(text):
            ask_fields("from all | " + text, **known)

    def test_a_source_that_there_is_none_of(self):
        self.check("from none", 0)
        self.check("from web none", 0)
        self.check("from none web", 0)
        self.check("from we", 0)
        self.check("from web", 0, sources=[])
        self.check("from took", 0)

    def test_a_source_told_twice(self):
        self.check("from web web", 0)
        self.check("from web app web", 0)

    def test_a_term_that_is_wrong(self):
        for term in ("none", "has none", "took", "user", "5", "'ann'", "took + 1", "user = 5", "took and done", "not took",
                     "user > 'a'", "done = 1", "has done + 1", "yes = 1", "done or none"):
            self.check_later("where " + term)
        for term in ("none", "has none", "user + 1", "user = 5", "took and done", "not user", "done = 0", "done * 2"):
            self.check_later("with more = " + term)
            self.check_later("with took = " + term)

    def test_a_with_may_have_any_sort(self):
        for term in ("5", "'ann'", "yes", "took", "user", "done"):
            self.check_good("with more = " + term)

    def test_a_with_does_not_see_its_own_field_before(self):
        self.check_later("with more = more + 1")
        self.check("from all | with more = 1 | with more = more + 1 | where more", 3)

    def test_a_field_that_is_not_there(self):
        for text in ("keep none", "keep took none", "keep none took", "drop none", "drop took none", "sort none up",
                     "sort none down", "sessions 3 by none", "sessions 3 by took none", "join app by none within 3",
                     "fold a = count by none", "fold a = count by took none", "fold a = sum none", "fold a = least none",
                     "fold a = most none", "fold a = unlike none", "fold a = count, b = unlike none"):
            self.check_later(text)

    def test_a_field_told_twice_in_a_list(self):
        for text in ("keep took took", "keep took user took", "drop took took", "drop time took time",
                     "sessions 3 by user user", "fold a = count by user user", "fold a = count by user took user"):
            self.check_later(text)

    def test_a_field_told_twice_in_several_places_of_a_fold(self):
        self.check_good("fold a = sum took, b = most took, c = unlike user by user")

    def test_no_time_that_is_a_number(self):
        for text in ("every 60", "sessions 60", "sessions 60 by user", "join app by user within 3"):
            self.check("from all | drop time | " + text, 2)
            self.check("from all | keep user | " + text, 2)
            self.check("from all | with time = 'a' | " + text, 2)
            self.check("from all | with time = yes | " + text, 2)
            self.check("from all | fold user = count | " + text, 2)
            self.check_good("with time = took | " + text)
            self.check_good("drop time | with time = 5 | " + text)

    def test_a_source_to_join_that_there_is_none_of(self):
        self.check_later("join none by user within 3")
        self.check_later("join user by user within 3")

    def test_a_field_to_join_by_that_is_not_in_the_rows_joined(self):
        self.check("from all | with more = 1 | join app by more within 3", 2)
        self.check("from all | every 5 | join app by span within 3", 2)
        self.check("from all | join app by user within 3 | join app by that_user within 3", 2)

    def test_a_field_to_join_by_that_is_not_in_the_rows_themselves(self):
        self.check("from all | drop user | join app by user within 3", 2)
        self.check("from all | drop source | join app by source within 3", 2)

    def test_a_field_to_join_by_that_is_of_another_sort(self):
        self.check("from all | with user = 1 | join app by user within 3", 2)
        self.check("from all | with took = 'a' | join app by took within 3", 2)
        self.check("from all | with done = 1 | join app by done within 3", 2)
        self.check("from all | with source = 1 | join app by source within 3", 2)
        self.check("from all | with number = 'a' | join app by number within 3", 2)
        self.check_good("with user = 'a' | join app by user within 3")
        self.check_good("join app by time within 3")
        self.check_good("join app by source within 3")
        self.check_good("join app by number within 3")

    def test_a_field_to_fold_that_is_no_number(self):
        for how in ("sum", "least", "most"):
            self.check_later(f"fold a = {how} user")
            self.check_later(f"fold a = {how} done")
            self.check_later(f"fold a = {how} source")
            self.check_later(f"fold a = count, b = {how} user by took")
            self.check_good(f"fold a = {how} took, b = {how} time, c = {how} number")
        for name in ("took", "user", "done", "source", "time", "number"):
            self.check_good(f"fold a = unlike {name}")

    def test_a_folds_name_told_twice(self):
        self.check_later("fold a = count, a = count")
        self.check_later("fold a = count, b = sum took, a = most took")

    def test_a_folds_name_that_is_one_of_its_bys(self):
        self.check_later("fold user = count by user")
        self.check_later("fold a = count, user = unlike took by done user")
        self.check_good("fold user = count by done")

    def test_fields_that_a_stage_ahead_took_away(self):
        self.check("from all | keep user | sort took up", 2)
        self.check("from all | drop user | keep user", 2)
        self.check("from all | fold a = count by user | where took > 3", 2)
        self.check("from all | fold a = count | keep a | keep user", 3)
        self.check("from all | join app by user within 3 | keep that_more", 2)

    def test_fields_that_a_stage_ahead_made(self):
        self.check_good("every 60 | fold a = count by span | sort a down")
        self.check_good("sessions 60 by user | fold a = count by user session | where a > 3 and session > 0")
        self.check_good("join app by user within 3 | where apart > 0 and that_done | keep that_time apart")
        self.check_good("with big = took > 3 | where big")

    def test_sorts_that_a_stage_ahead_changed(self):
        self.check("from all | with took = 'a' | where took > 3", 2)
        self.check("from all | with user = 1 | where user = 'ann'", 2)
        self.check("from all | fold user = count | where user = 'a'", 2)
        self.check("from all | every 5 | where span = 'a'", 2, kinds={**KINDS, "span": "word"})
        self.check("from all | sessions 5 | where session", 2, kinds={**KINDS, "session": "flag"})
        self.check("from all | join app by user within 5 | where apart", 2, kinds={**KINDS, "apart": "flag"})

    def test_the_first_wrong_one_of_two(self):
        self.check("from none | keep none", 0)
        self.check("from all | keep none | sort none up", 1)
        self.check("from all | first 3 | sort none up | keep none", 2)
        self.check("from web web | where 5", 0)
        self.check("from all" + " | first 3" * 10 + " | keep none", 11)

    def test_behind_a_kept_question(self):
        kept = {"one": "from all | keep user time"}
        self.check("from @one | where took > 3", 1, kept=kept)
        self.check("from @one | first 3 | keep none", 2, kept=kept)
        self.check("from @one | keep source", 1, kept=kept)
        self.check("from @one | join none by user within 3", 1, kept=kept)

    def test_a_kept_question_that_is_wrong(self):
        kept = {"one": "from all | first 3 | keep none", "two": "from @one | first 3"}
        self.check("from @one | keep none", 0, kept=kept)
        self.check("from @two | first 3", 0, kept=kept)

    def test_a_name_that_is_not_kept_goes_ahead(self):
        with self.assertRaises(NoName):
            ask_fields("from @none | keep none")
        with self.assertRaises(NoName):
            ask_fields("from @one | keep none", kept={"one": "from @none | keep none"})
