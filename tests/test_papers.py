"""By what papers pieces are left."""

import itertools
import unittest

from logdelve.papers import barred_by, papers_of
from logdelve.pieces import extents_of
from logdelve.questions import read_question
from logdelve.stages import where_rows
from logdelve.terms import read_term
from tests.helper import kind_and_value


def row(time, number=0, source="web", **fields):
    return (time, source, number, fields)


def compared(name, sign, value):
    sort = {bool: "flag", int: "number", str: "word"}[type(value)]
    return (sign, ("field", name), (sort, value))


def paper_for(texts, rows, since=None, until=None):
    """Tell by which paper a piece of rows is left; the first text is the question on which all lean."""
    chain = [read_question(text) for text in texts]
    return barred_by(extents_of(rows), papers_of(chain, since, until))


class Papers(unittest.TestCase):
    ROWS = [row(10, 3, "app", took=3, user="ann", done=False), row(20, 7, "web", took=9, user="bob"), row(20, 9)]

    def check(self, text, wanted, rows=None, **bounds):
        with self.subTest(f"{text} {bounds}"):
            texts = [text] if isinstance(text, str) else text
            told = paper_for(texts, self.ROWS if rows is None else rows, **bounds)
            self.assertEqual(kind_and_value(told), kind_and_value(wanted))

    def check_where(self, term, barred, rows=None):
        """Check a where that is one part: it bars the piece, or does not."""
        self.check("from all | where " + term, read_term(term) if barred else None, rows)


class Sources(Papers):
    def test_sources_that_are_in_the_piece(self):
        for text in ("from app", "from web", "from web app", "from web other", "from other app"):
            self.check(text, None)

    def test_sources_that_are_not(self):
        self.check("from other", ("sources", ("other",)))
        self.check("from zebra other", ("sources", ("zebra", "other")))
        self.check("from we", ("sources", ("we",)))

    def test_all_sources(self):
        self.check("from all", None)


class Times(Papers):
    def test_since_at_below_and_above_the_greatest(self):
        for since in (-30, 9, 10, 11, 19, 20):
            self.check("from all", None, since=since)
        for since in (21, 22, 1000):
            self.check("from all", compared("time", ">=", since), since=since)

    def test_until_at_below_and_above_the_least(self):
        for until in (11, 12, 20, 21, 1000):
            self.check("from all", None, until=until)
        for until in (10, 9, 0, -30):
            self.check("from all", compared("time", "<", until), until=until)

    def test_nought_is_a_bound(self):
        rows = [row(-5), row(-1)]
        self.check("from all", compared("time", ">=", 0), rows, since=0)
        self.check("from all", None, rows, until=0)
        self.check("from all", compared("time", "<", 0), [row(0)], until=0)

    def test_both(self):
        self.check("from all", None, since=11, until=12)
        self.check("from all", compared("time", ">=", 21), since=21, until=10)
        self.check("from all", compared("time", "<", 10), since=20, until=10)


class Parts(Papers):
    def test_each_comparison_at_below_and_above_least_and_greatest(self):
        for sign, open_for in (
            ("=", (3, 4, 8, 9)), ("!=", (2, 3, 4, 8, 9, 10)), ("<", (4, 8, 9, 10)), ("<=", (3, 4, 8, 9, 10)),
            (">", (2, 3, 4, 8)), (">=", (2, 3, 4, 8, 9)),
        ):
            for value in (2, 3, 4, 8, 9, 10):
                self.check_where(f"took {sign} {value}", value not in open_for)

    def test_where_least_and_greatest_are_one_number(self):
        rows = [row(1, 0, took=5), row(2, 1), row(3, 2, took=5)]
        for sign, open_for in (("=", (5,)), ("!=", (4, 6)), ("<", (6,)), ("<=", (5, 6)), (">", (4,)), (">=", (4, 5))):
            for value in (4, 5, 6):
                self.check_where(f"took {sign} {value}", value not in open_for, rows)

    def test_numbers_below_nought(self):
        rows = [row(1, 0, took=-5), row(2, 1, took=0)]
        for term, barred in (("took < -5", True), ("took <= -5", False), ("took > 0", True), ("took >= 0", False),
                             ("took = -6", True), ("took = -1", False), ("took = 1", True)):
            self.check_where(term, barred, rows)

    def test_words(self):
        for term, barred in (("user = 'ann'", False), ("user = 'bob'", False), ("user = 'ben'", True),
                             ("user != 'ann'", False), ("user != 'ben'", False)):
            self.check_where(term, barred)
        rows = [row(1, 0, user="ann"), row(2, 1)]
        for term, barred in (("user = 'ann'", False), ("user != 'ann'", True), ("user != 'bob'", False)):
            self.check_where(term, barred, rows)

    def test_flags(self):
        yes, no = [row(1, 0, done=True), row(2, 1)], [row(1, 0, done=False), row(2, 1)]
        both = [row(1, 0, done=True), row(2, 1, done=False)]
        for term, barred in (
            ("done = yes", (False, True, False)), ("done = no", (True, False, False)), ("done", (False, True, False)),
            ("done != yes", (True, False, False)), ("done != no", (False, True, False)), ("has done", (False, False, False)),
        ):
            for rows, bars in zip((yes, no, both), barred):
                self.check_where(term, bars, rows)

    def test_a_field_that_is_not_there(self):
        rows = [row(1, 0, user="ann")]
        for term in ("took = 5", "took != 5", "took < 5", "took >= 5", "done", "has took", "has done", "done = no", "done != no"):
            self.check_where(term, True, rows)

    def test_has(self):
        self.check_where("has user", False)
        self.check_where("has time", False)
        self.check_where("has other", True)

    def test_time_source_and_number(self):
        for term, barred in (("time > 20", True), ("time >= 20", False), ("source = 'web'", False), ("source = 'other'", True),
                             ("source != 'web'", False), ("number < 3", True), ("number = 9", False), ("number = 5", False)):
            self.check_where(term, barred)
        self.check_where("source != 'web'", True, [row(1), row(2)])

    def test_what_is_no_such_part(self):
        for term in ("no", "not yes", "not done", "not has took", "3 > took", "9 < took", "5 = 6", "took + 1 > 90", "took > 90 + 1",
                     "took = took + 1", "took != took", "not took < 90", "(took > 90) = yes", "done = (took > 90)", "has other = yes",
                     "took > 90 or took > 91", "has other or has another", "not (took > 90 and took > 91)"):
            self.check("from all | where " + term, None)


class Joined(Papers):
    def test_parts_joined_by_and_from_left_to_right(self):
        self.check("from all | where took > 90 and took > 91", compared("took", ">", 90))
        self.check("from all | where took > 3 and took > 91", compared("took", ">", 91))
        self.check("from all | where took > 3 and took > 4 and took > 91", compared("took", ">", 91))
        self.check("from all | where took > 3 and (took > 4 and took > 91) and took > 92", compared("took", ">", 91))
        self.check("from all | where has user and (took < 90 and (done and user = 'x'))", ("field", "done"))
        self.check("from all | where took > 3 and took < 9", None)
        self.check("from all | where took > 3 and took < 4", None)

    def test_parts_amid_others_that_are_none(self):
        self.check("from all | where not done and took > 91", compared("took", ">", 91))
        self.check("from all | where (took > 90 or done) and has other", ("has", "other"))
        self.check("from all | where took > 90 or took > 91 and took > 92", None)
        self.check("from all | where not (took > 90) and yes", None)

    def test_a_long_term(self):
        self.check("from all | where " + " and ".join(["took > 3"] * 150 + ["took > 90"]), compared("took", ">", 90))

    def test_several_wheres_right_behind_from(self):
        self.check("from all | where took > 3 | where took > 90", compared("took", ">", 90))
        self.check("from all | where took > 3 | where yes | where took > 91 and took > 90", compared("took", ">", 91))
        self.check("from all | where took > 91 | where took > 90", compared("took", ">", 91))

    def test_a_where_behind_another_stage_does_not_count(self):
        for stage in ("with took = 99", "keep took", "drop user", "sort took up", "first 1", "every 5", "sessions 5", "fold took = sum took"):
            self.check(f"from all | {stage} | where took > 90", None)
            self.check(f"from all | where took > 3 | {stage} | where took > 90", None)
            self.check(f"from all | where took > 91 | {stage} | where took > 90", compared("took", ">", 91))


class FirstOfSeveral(Papers):
    def test_sources_then_since_then_until_then_parts(self):
        others, since, until, part = ("sources", ("other",)), compared("time", ">=", 21), compared("time", "<", 10), compared("took", ">", 90)
        for barred in itertools.product((True, False), repeat=4):
            text = "from " + ("other" if barred[0] else "web") + " | where " + ("took > 90" if barred[3] else "took > 3")
            wanted = [paper for paper, bars in zip((others, since, until, part), barred) if bars]
            self.check(text, wanted[0] if wanted else None, since=21 if barred[1] else 20, until=10 if barred[2] else 11)


class Leaning(Papers):
    def test_the_last_one_on_which_all_lean(self):
        self.check(["from other", "from @a"], ("sources", ("other",)))
        self.check(["from all | where took > 90", "from @a", "from @b | where took > 91"], compared("took", ">", 90))

    def test_wheres_of_those_that_lean_do_not_count(self):
        self.check(["from all", "from @a | where took > 90"], None)
        self.check(["from all | where took > 3", "from @a | where took > 90", "from @b | where took > 91"], None)

    def test_bounds(self):
        self.check(["from all", "from @a"], compared("time", ">=", 21), since=21)
        self.check(["from other", "from @a"], ("sources", ("other",)), since=21)


class Joins(Papers):
    def test_times_alone_bar(self):
        text = "from other | where took > 90 | join app by user within 5"
        self.check(text, None)
        self.check(text, None, since=20, until=21)
        self.check(text, compared("time", ">=", 21), since=21, until=10)
        self.check(text, compared("time", "<", 10), until=10)

    def test_where_any_of_those_that_lean_joins(self):
        join = " | join app by user within 5"
        for texts in (["from other" + join, "from @a"], ["from other", "from @a" + join], ["from other", "from @a" + join, "from @b"]):
            self.check(texts, None)
            self.check(texts, compared("time", "<", 10), until=10)


class NothingIsMissed(unittest.TestCase):
    """A piece that is left has no row that the where lets by."""

    def test_rows_of_pieces_that_are_left(self):
        values = {"took": (None, 1, 2, 3), "user": (None, "ann", "bob"), "done": (None, False, True)}
        terms = [f"took {sign} {value}" for sign in ("=", "!=", "<", "<=", ">", ">=") for value in (0, 1, 2, 3, 4)]
        terms += [f"user {sign} '{value}'" for sign in ("=", "!=") for value in ("ann", "bob", "ben")]
        terms += [f"done {sign} {value}" for sign in ("=", "!=") for value in ("yes", "no")]
        terms += ["done", "has took", "has user", "has done"]
        for name, told in values.items():
            for pair in itertools.product(told, repeat=2):
                rows = [row(1, at, **({} if value is None else {name: value})) for at, value in enumerate(pair)]
                pairs = [({} if value is None else {name: value}, []) for value in pair]
                for term in terms:
                    if paper_for(["from all | where " + term], rows) is not None:
                        self.assertEqual(where_rows(pairs, read_term(term)), [], f"{term} {pair}")
