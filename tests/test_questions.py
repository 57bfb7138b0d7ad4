"""Questions, written and read."""

import unittest

from logdelve.questions import question_text, read_question
from tests.helper import fault_at, kind_and_value

TOOK = ("field", "took")
SLOW = (">", TOOK, ("number", 30))
ALL = ("from", ())
GREATEST = 10 ** 30 - 1
LONG = "a" * 20
TOO_LONG = "a" * 21

FIRSTS = (
    (("from", ("web",)), "from web"),
    (("from", ("web", "app")), "from web app"),
    (("from", ("web", "web", LONG)), "from web web " + LONG),
    (("from", ("from", "where")), "from from where"),
    (ALL, "from all"),
    (("from", ("@", "slow")), "from @slow"),
    (("from", ("@", LONG)), "from @" + LONG),
    (("from", ("@", "from")), "from @from"),
)
LATER = (
    (("where", SLOW), "where took > 30"),
    (("where", ("or", ("flag", True), ("not", ("has", "user")))), "where yes or not has user"),
    (("where", ("field", "where")), "where where"),
    (("with", "twice", ("*", TOOK, ("number", 2))), "with twice = took * 2"),
    (("with", LONG, ("=", ("field", "user"), ("word", "ann"))), "with " + LONG + " = user = 'ann'"),
    (("with", "with", ("number", -5)), "with with = -5"),
    (("keep", ("user",)), "keep user"),
    (("keep", ("user", "took")), "keep user took"),
    (("keep", ("keep", "keep", "drop")), "keep keep keep drop"),
    (("drop", ("took",)), "drop took"),
    (("drop", ("took", "user", LONG)), "drop took user " + LONG),
    (("sort", "took", False), "sort took up"),
    (("sort", "took", True), "sort took down"),
    (("sort", "sort", True), "sort sort down"),
    (("first", 0), "first 0"),
    (("first", 3), "first 3"),
    (("first", GREATEST), "first " + "9" * 30),
    (("every", 1), "every 1"),
    (("every", 60), "every 60"),
    (("sessions", 0, ()), "sessions 0"),
    (("sessions", 30, ()), "sessions 30"),
    (("sessions", 30, ("user",)), "sessions 30 by user"),
    (("sessions", 30, ("user", "source")), "sessions 30 by user source"),
    (("join", "app", "user", 10), "join app by user within 10"),
    (("join", "join", "join", 0), "join join by join within 0"),
    (("fold", (("many", "count", None),), ()), "fold many = count"),
    (("fold", (("many", "count", None),), ("user",)), "fold many = count by user"),
    (("fold", (("many", "count", None), ("total", "sum", "took")), ("user",)),
     "fold many = count, total = sum took by user"),
    (("fold", (("a", "sum", "x"), ("b", "least", "x"), ("c", "most", "x"), ("d", "unlike", "x"), ("e", "count", None)),
      ("user", "source")),
     "fold a = sum x, b = least x, c = most x, d = unlike x, e = count by user source"),
    (("fold", (("fold", "unlike", "fold"),), ()), "fold fold = unlike fold"),
)


def faulty_names(ahead, behind=""):
    """Tell texts with something in the place of a name that can't stand there."""
    return [ahead + thing + behind for thing in ("5", "-1", "'ann'", "|", "=", "+", "(", ")", ",", "all", "by", "yes")]


class Written(unittest.TestCase):
    def test_the_first_stage_alone(self):
        for stage, text in FIRSTS:
            with self.subTest(text):
                self.assertEqual(question_text((stage,)), text)

    def test_each_other_stage(self):
        for stage, text in LATER:
            with self.subTest(text):
                self.assertEqual(question_text((ALL, stage)), "from all | " + text)

    def test_several_stages(self):
        for (one, one_text), (other, other_text) in zip(LATER, LATER[1:]):
            with self.subTest(one_text):
                told = question_text((("from", ("@", "slow")), one, other))
                self.assertEqual(told, f"from @slow | {one_text} | {other_text}")

    def test_more_stages_than_are_read(self):
        self.assertEqual(question_text((ALL,) + (("first", 3),) * 13), "from all" + " | first 3" * 13)


class Read(unittest.TestCase):
    def check(self, text, question):
        with self.subTest(text):
            told = read_question(text)
            self.assertEqual(told, question)
            self.assertEqual(kind_and_value(told), kind_and_value(question))

    def test_the_first_stage_alone(self):
        for stage, text in FIRSTS:
            self.check(text, (stage,))

    def test_each_other_stage(self):
        for stage, text in LATER:
            self.check("from all | " + text, (ALL, stage))

    def test_several_stages(self):
        for (one, one_text), (other, other_text) in zip(LATER, LATER[1:]):
            self.check(f"from web app | {one_text} | {other_text}", (("from", ("web", "app")), one, other))

    def test_twelve_stages(self):
        self.check("from all" + " | first 3" * 11, (ALL,) + (("first", 3),) * 11)
        twelve = LATER[:11]
        self.check(" | ".join(["from all", *[text for stage, text in twelve]]), (ALL, *[stage for stage, text in twelve]))

    def test_more_blanks(self):
        self.check("  from   all  ", (ALL,))
        self.check("from  @  slow", (("from", ("@", "slow")),))
        self.check("  from   web   app   |   keep   user   took  ", (("from", ("web", "app")), ("keep", ("user", "took"))))
        self.check("from all |  fold  many  =  count ,  total  =  sum  took  by  user ", (
            ALL, ("fold", (("many", "count", None), ("total", "sum", "took")), ("user",))))
        self.check("from all | join  app  by  user  within  10 ", (ALL, ("join", "app", "user", 10)))
        self.check("from all | where  ( took  >  30 ) ", (ALL, ("where", SLOW)))

    def test_no_blanks_where_none_are_needed(self):
        self.check("from@slow", (("from", ("@", "slow")),))
        self.check("from all|where took>30", (ALL, ("where", SLOW)))
        self.check("from all|where(took>30)|first 3", (ALL, ("where", SLOW), ("first", 3)))
        self.check("from web|with twice=took*2|first3|every60", (
            ("from", ("web",)), ("with", "twice", ("*", TOOK, ("number", 2))), ("first", 3), ("every", 60)))
        self.check("from all|sessions30by user|sessions30", (ALL, ("sessions", 30, ("user",)), ("sessions", 30, ())))
        self.check("from all|join app by user within10|sort took up", (
            ALL, ("join", "app", "user", 10), ("sort", "took", False)))
        self.check("from all|fold many=count,total=sum took,c=most took by user", (
            ALL, ("fold", (("many", "count", None), ("total", "sum", "took"), ("c", "most", "took")), ("user",))))
        self.check("from all|with a=-5|with a='b'", (ALL, ("with", "a", ("number", -5)), ("with", "a", ("word", "b"))))

    def test_terms_reach_up_to_the_next_stage(self):
        self.check("from all | where a or b | where c", (
            ALL, ("where", ("or", ("field", "a"), ("field", "b"))), ("where", ("field", "c"))))
        self.check("from all | with a = b = c | first 1", (
            ALL, ("with", "a", ("=", ("field", "b"), ("field", "c"))), ("first", 1)))

    def test_each_term_has_its_own_depth(self):
        deep = "(" * 12 + "a" + ")" * 12
        self.check(f"from all | where {deep} | with b = {deep}", (
            ALL, ("where", ("field", "a")), ("with", "b", ("field", "a"))))

    def test_what_is_told_has_tuples_all_the_way_down(self):
        told = read_question("from web | keep a | sessions 3 by a | fold b = count, c = sum a by a")
        self.assertIs(type(told), tuple)
        for stage in told:
            self.assertIs(type(stage), tuple)
        self.assertEqual([type(thing) for thing in told[3][1]], [tuple, tuple])


class Faults(unittest.TestCase):
    def check(self, text, at):
        with self.subTest(text):
            self.assertEqual(fault_at(read_question, text), at)

    def check_later(self, text, at):
        """Check a stage behind from, its place told from its own beginning on."""
        self.check("from all | " + text, 11 + at)
        self.check("from web|" + text, 9 + at)

    def check_more(self, text):
        """Check a stage that wants more at its end."""
        self.check_later(text, len(text))
        self.check_later(text + "  ", len(text) + 2)

    def test_no_text(self):
        self.check("", 0)
        self.check("   ", 3)

    def test_no_from(self):
        for text in ("where took > 30", "first 3", "web", "@slow", "all", "| from all", "5", "fro all", "froms all"):
            self.check(text, 0)
            self.check("  " + text, 2)

    def test_from_again(self):
        self.check("from web | from app", 11)
        self.check("from web | first 3 | from all", 21)
        self.check("from web | from", 11)
        self.check("from web | first 3 |from @slow | first 3", 20)

    def test_from(self):
        self.check("from", 4)
        self.check("from  ", 6)
        self.check("from @", 6)
        self.check("from @ ", 7)
        for text in faulty_names("from "):
            self.check(text, None if text == "from all" else 5)
        for text in faulty_names("from @"):
            self.check(text, 6)
        self.check("from @@slow", 6)
        self.check("from all web", 9)
        self.check("from web all", 9)
        self.check("from all all", 9)
        self.check("from web @slow", 9)
        self.check("from @slow web", 11)
        self.check("from @slow @slow", 11)
        self.check("from web, app", 8)
        self.check("from (web)", 5)

    def test_between_stages(self):
        self.check("from web |", 10)
        self.check("from web | ", 11)
        self.check("from web | first 3 |", 20)
        self.check("from web || first 3", 10)
        self.check("from web | | first 3", 11)
        self.check("| from web", 0)
        self.check("from web | first 3 first 3", 19)
        self.check("from web ) | first 3", 9)

    def test_something_that_is_no_stage(self):
        for thing in ("user", "wher", "wheres", "sum took", "by user", "5", "'a'", "(first 3)", "@slow", "all", ","):
            self.check_later(thing, 0)

    def test_a_thirteenth_stage(self):
        twelve = "from all" + " | first 3" * 11
        self.check(twelve, None)
        self.check(twelve + " | first 3", len(twelve) + 1)
        self.check(twelve + "| first 3", len(twelve))
        self.check(twelve + " |", len(twelve) + 1)
        self.check(twelve + " | nothing", len(twelve) + 1)
        self.check(twelve + " | first 3" * 8, len(twelve) + 1)
        self.check(twelve + " x | first 3", len(twelve) + 1)
        self.check(twelve + " | first 3 $", len(twelve) + 11)

    def test_where(self):
        self.check_more("where")
        self.check_more("where took >")
        self.check_more("where (took")
        self.check_more("where not")
        self.check_later("where | first 3", 6)
        self.check_later("where took > 30 first 3", 16)
        self.check_later("where took > 30 by user", 16)
        self.check_later("where a = b = c", 12)
        self.check_later("where (took | first 3)", 12)
        self.check_later("where took > 30)", 15)
        self.check_later("where " + "(" * 13 + "a" + ")" * 13, 18)
        self.check_later("where " + "not " * 13 + "a", 54)
        self.check_later("where a, b", 7)

    def test_with(self):
        self.check_more("with")
        self.check_more("with a")
        self.check_more("with a =")
        self.check_more("with a = b +")
        for text in faulty_names("with ", " = 5"):
            self.check_later(text, 5)
        self.check_later("with a 5", 7)
        self.check_later("with a b = 5", 7)
        self.check_later("with a == 5", 8)
        self.check_later("with a <= 5", 7)
        self.check_later("with a = | first 3", 9)
        self.check_later("with a = b = c = d", 15)
        self.check_later("with a = 5, b = 6", 10)

    def test_keep_and_drop(self):
        for word in ("keep", "drop"):
            self.check_more(word)
            for text in faulty_names(word + " "):
                self.check_later(text, 5)
            for text in faulty_names(word + " user "):
                self.check_later(text, 11 if "|" in text else 10)
            self.check_later(word + " user, took", 9)
            self.check_later(word + " | first 3", 5)

    def test_sort(self):
        self.check_more("sort")
        self.check_more("sort took")
        for text in faulty_names("sort ", " up"):
            self.check_later(text, 5)
        for thing in ("by", "took", "5", "| first 3", "yes", "ups", "count"):
            self.check_later("sort took " + thing, 10)
        self.check_later("sort up", 5)
        self.check_later("sort took up down", 13)
        self.check_later("sort took up user up", 13)

    def test_first_and_every(self):
        for word in ("first", "every"):
            self.check_more(word)
            for thing in ("user", "'a'", "- 5", "yes", "| first 3", "(3)", "all"):
                self.check_later(word + " " + thing, 6)
            self.check_later(word + " 3 4", 8)
            self.check_later(word + " 3 + 4", 8)
            self.check_later(word + " 3 by user", 8)
            self.check_later(word + " 03", 6)

    def test_numbers_below_their_least(self):
        self.check("from all | first 0", None)
        self.check_later("first -1", 6)
        self.check_later("first   -1 | first 3", 8)
        self.check("from all | every 1", None)
        self.check_later("every 0", 6)
        self.check_later("every  0 | first 3", 7)
        self.check_later("every -1", 6)
        self.check("from all | sessions 0 by user", None)
        self.check_later("sessions -1", 9)
        self.check_later("sessions -1 by user", 9)
        self.check("from all | join app by user within 0", None)
        self.check_later("join app by user within -1", 24)
        self.check_later("first -" + "9" * 30, 6)

    def test_a_number_below_its_least_ahead_of_what_cannot_stand(self):
        self.check_later("first -1 first", 6)
        self.check_later("first -1 | nothing", 6)
        self.check_later("every 0 (", 6)
        self.check_later("sessions -1 by 5", 9)
        self.check_later("first -1 $", 9)

    def test_sessions(self):
        self.check_more("sessions")
        self.check_more("sessions 30 by")
        for thing in ("user", "by user", "'a'", "- 5", "| first 3"):
            self.check_later("sessions " + thing, 9)
        for text in faulty_names("sessions 30 by "):
            self.check_later(text, 15)
        self.check_later("sessions 30 user", 12)
        self.check_later("sessions 30 31", 12)
        self.check_later("sessions 30 by user, took", 19)
        self.check_later("sessions 30 by user by took", 20)

    def test_join(self):
        for text in ("join", "join app", "join app by", "join app by user", "join app by user within"):
            self.check_more(text)
        for text in faulty_names("join ", " by user within 10"):
            self.check_later(text, 5)
        for text in faulty_names("join app by ", " within 10"):
            self.check_later(text, 12)
        self.check_later("join app user within 10", 9)
        self.check_later("join app web by user within 10", 9)
        self.check_later("join app within 10", 9)
        self.check_later("join app by user took within 10", 17)
        self.check_later("join app by user 10", 17)
        self.check_later("join app by user within user", 24)
        self.check_later("join app by user within 10 11", 27)
        self.check_later("join @slow by user within 10", 5)
        self.check_later("join all by user within 10", 5)

    def test_fold(self):
        for text in ("fold", "fold many", "fold many =", "fold many = sum", "fold many = count,", "fold many = count by",
                     "fold many = count, total", "fold many = count, total = most"):
            self.check_more(text)
        for text in faulty_names("fold ", " = count"):
            self.check_later(text, 5)
        for text in faulty_names("fold many = count, ", " = count"):
            self.check_later(text, 19)
        for text in faulty_names("fold many = count by "):
            self.check_later(text, 21)
        self.check_later("fold count = count", 5)
        self.check_later("fold count", 5)
        self.check_later("fold sum took", 5)
        self.check_later("fold by user", 5)
        self.check_later("fold many count", 10)
        self.check_later("fold many <= count", 10)
        self.check_later("fold many = count total = count", 18)
        self.check_later("fold many = count by user, took", 25)
        self.check_later("fold many = count by user by took", 26)
        self.check_later("fold many = count, by user", 19)
        self.check_later("fold many = count + 1", 18)

    def test_how(self):
        for thing in ("took", "all", "up", "5", "'a'", "mosts", "counts", "(count)", "| first 3", ", a = count"):
            self.check_later("fold many = " + thing, 12)

    def test_count_has_no_field(self):
        self.check_later("fold many = count took", 18)
        self.check_later("fold many = count took by user", 18)
        self.check_later("fold many = count 5", 18)

    def test_the_others_have_one(self):
        for how in ("sum", "least", "most", "unlike"):
            for text in faulty_names(f"fold many = {how} "):
                self.check_later(text, 13 + len(how))
            self.check_later(f"fold many = {how} by user", 13 + len(how))
            self.check_later(f"fold many = {how}, b = count", 12 + len(how))
            self.check_later(f"fold many = {how} took user", 18 + len(how))
            self.check_later(f"fold many = {how} took + 1", 18 + len(how))
            self.check_later(f"fold many = {how} count", 13 + len(how))

    def test_words_are_not_taken_for_signs_that_read_like_them(self):
        self.check("'from' all", 0)
        self.check("from 'all'", 5)
        self.check("from 'web'", 5)
        self.check_later("'first' 3", 0)
        self.check_later("'where' yes", 0)
        self.check_later("sort took 'up'", 10)
        self.check_later("sort took 'down'", 10)
        self.check_later("sessions 3 'by' user", 11)
        self.check_later("join app 'by' user within 3", 9)
        self.check_later("join app by user 'within' 3", 17)
        self.check_later("fold a = 'count'", 9)
        self.check_later("fold a = 'sum' took", 9)
        self.check_later("fold a = count 'by' user", 15)

    def test_names_of_twenty_one_signs(self):
        for text in ("from ", "from web ", "from @", "from all | keep ", "from all | drop a ", "from all | with ",
                     "from all | where ", "from all | where has ", "from all | with a = ", "from all | sort ",
                     "from all | sessions 3 by ", "from all | join ", "from all | join app by ", "from all | fold ",
                     "from all | fold a = sum ", "from all | fold a = count by "):
            self.check(text + TOO_LONG, len(text))

    def test_names_of_twenty_signs(self):
        for text in ("from ", "from web ", "from @", "from all | keep ", "from all | drop a ", "from all | where ",
                     "from all | where has ", "from all | with a = ", "from all | sessions 3 by ",
                     "from all | fold a = sum ", "from all | fold a = count by "):
            self.check(text + LONG, None)
        self.check(f"from all | with {LONG} = 5 | sort {LONG} up | join {LONG} by {LONG} within 3", None)
        self.check(f"from all | fold {LONG} = count", None)

    def test_what_is_no_sign_goes_first_wherever_it_stands(self):
        self.check("$", 0)
        self.check("where web | from $", 17)
        self.check("from web | from app | where took > 007", 35)
        self.check("first 'Ann'", 6)
        self.check("from all | first -1 | keep 'ann", 27)
        self.check("from all | first 3.5", 18)
        self.check("from Web", 5)
        self.check("from all ; first 3", 9)
        self.check("from all | every 0 | first 00", 27)
        self.check("from web1", 8)
        self.check("from all | first 1" + "0" * 30, 17)

    def test_any_beginning_of_a_question(self):
        text = "from web app|where took>30|with a=b|sort a up|sessions 3 by a|join app by a within 3|fold c=count,d=sum a by a"
        for at in range(len(text)):
            told = fault_at(read_question, text[:at])
            self.assertTrue(told is None or told <= at, text[:at])
        self.assertIsNone(fault_at(read_question, text))
