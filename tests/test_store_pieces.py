"""Pieces, plans and indexes of a store, behind every deed."""

import itertools
import random

from logdelve import errors
from logdelve.store import Store
from tests.helper import KINDS, Watched, filled_store, kind_and_value, model_answer, model_flat
from logdelve.questions import read_question

FIELDS = ("took", "user", "done", "time", "source", "number")


def model_summary(rows):
    """Tell the summary of rows, each field gone through by itself."""
    told = {}
    for name, sort in {**KINDS, "time": "number", "source": "word", "number": "number"}.items():
        values = [model_flat(row)[0][name] for row in rows if name in model_flat(row)[0]]
        if values and sort == "number":
            told[name] = (sort, min(values), max(values))
        elif values:
            told[name] = (sort, *sorted(set(values)))
    return told


class Watching(Watched):
    def check_pieces(self, store, size):
        """Check that pieces hold all rows, as they have to, and that summaries and indexes are right."""
        rows = store.rows()
        by_key = {row[1:3]: row for row in rows}
        pieces = store.pieces()
        self.assertEqual([key for piece in pieces for key in piece], [row[1:3] for row in rows])
        self.assertEqual(rows, sorted(rows, key=lambda row: row[:3]))
        for at, piece in enumerate(pieces):
            self.assertTrue(1 <= len(piece) <= size)
            self.check_alike(store.summary(at), model_summary([by_key[key] for key in piece]))
        for at in (-1, -len(pieces), len(pieces), len(pieces) + 1):
            if not 0 <= at < len(pieces):
                with self.assertRaises(errors.NoPiece):
                    store.summary(at)
        self.check_indexes(store)

    def check_indexes(self, store):
        flat = [model_flat(row)[0] for row in store.rows()]
        for field in store.indexes():
            values = [row[field] for row in flat if field in row]
            for value in [*values, *{"number": [-77], "word": ["nobody"], "flag": [True, False]}[self.sort_of(field)]]:
                wanted = [(row["source"], row["number"]) for row in flat if field in row and row[field] == value]
                self.check_alike(store.looked_up(field, value), wanted)

    def sort_of(self, field):
        return {**KINDS, "time": "number", "source": "word", "number": "number"}[field]

    def check_tidy(self, store, size):
        store.tidy()
        for one, other in itertools.pairwise(store.pieces()):
            self.assertGreater(len(one) + len(other), size)


def made(size, indexes=FIELDS):
    store = Store(size=size)
    for source in ("web", "app", "db_two"):
        store.source(source)
    for name, sort in KINDS.items():
        store.field(name, sort=sort)
    for field in indexes:
        store.add_index(field)
    return store


def made_row(chance, number):
    fields = {"took": chance.randint(-3, 3), "user": chance.choice(["ann", "bob", "cid"]), "done": chance.random() < 0.5}
    fields = {name: value for name, value in fields.items() if chance.random() < 0.6}
    return (chance.randint(-5, 20), chance.choice(["web", "app", "db_two"]), number, fields)


class Pieces(Watching):
    def test_no_rows(self):
        for size in (1, 8, 50):
            store = made(size)
            self.check_alike(store.pieces(), [])
            for at in (-1, 0, 1):
                self.check_refused(store, errors.NoPiece, lambda one: one.summary(at))
            store.tidy()
            self.check_alike(store.pieces(), [])

    def test_no_piece_at_both_ends(self):
        store = filled_store()
        many = len(store.pieces())
        self.assertGreater(many, 1)
        store.summary(0)
        store.summary(many - 1)
        for at in (-1, -many, many, many + 1):
            self.check_refused(store, errors.NoPiece, lambda one: one.summary(at))

    def test_a_summary_by_hand(self):
        store = made(8)
        store.batch([
            (5, "web", 0, {"took": 1, "done": True}), (7, "db_two", 9, {"took": -1, "user": "bob"}), (6, "web", 3, {"user": "ann"})])
        self.check_alike(store.pieces(), [[("web", 0), ("web", 3), ("db_two", 9)]])
        self.check_alike(store.summary(0), {
            "time": ("number", 5, 7), "source": ("word", "db_two", "web"), "number": ("number", 0, 9),
            "took": ("number", -1, 1), "user": ("word", "ann", "bob"), "done": ("flag", True),
        })

    def test_behind_each_deed_and_each_taking_back(self):
        for size in (1, 2, 8, 50):
            chance = random.Random(size)
            store = made(size)
            told = [store.pieces()]
            for number in range(40):
                store.add(made_row(chance, number))
                told.append(store.pieces())
                self.check_pieces(store, size)
            for source, number in chance.sample([row[1:3] for row in store.rows()], 12):
                store.strike(source, number)
                told.append(store.pieces())
                self.check_pieces(store, size)
            for source, number in chance.sample([row[1:3] for row in store.rows()], 5):
                store.amend(source, number, made_row(chance, 0)[3])
                told.append(store.pieces())
                self.check_pieces(store, size)
            for deed in (lambda: self.check_tidy(store, size), lambda: store.floor("web", 10), lambda: self.check_tidy(store, size),
                         lambda: store.batch([made_row(chance, number) for number in range(100, 120)]),
                         lambda: store.floor("app", 30), lambda: self.check_tidy(store, size)):
                deed()
                told.append(store.pieces())
                self.check_pieces(store, size)
            for pieces in told[-2::-1]:
                store.undo()
                self.assertEqual(store.pieces(), pieces)
                self.check_pieces(store, size)
            for pieces in told[1:]:
                store.redo()
                self.assertEqual(store.pieces(), pieces)
                self.check_pieces(store, size)

    def test_rows_that_go_to_the_last_one(self):
        for size in (1, 2, 8):
            store = made(size)
            store.batch([(number, "web", number, {}) for number in range(20)])
            for number in [*range(10, 20), *range(9, -1, -1)]:
                store.strike("web", number)
                self.check_pieces(store, size)
            self.check_alike(store.pieces(), [])
            self.assertEqual(len(store), 0)


class Indexes(Watching):
    def test_by_hand(self):
        store = made(2)
        store.batch([
            (5, "web", 10, {"took": 1, "user": "ann", "done": True}), (5, "web", 9, {"took": 1}), (5, "app", 3, {"took": 1, "done": True}),
            (-1, "web", 30, {"took": 1}), (6, "app", 4, {"took": 0, "user": "ann"})])
        for field, value, wanted in (
            ("took", 1, [("web", 30), ("app", 3), ("web", 9), ("web", 10)]), ("took", 0, [("app", 4)]), ("took", 2, []),
            ("user", "ann", [("web", 10), ("app", 4)]), ("user", "bob", []), ("done", True, [("app", 3), ("web", 10)]),
            ("done", False, []), ("time", 5, [("app", 3), ("web", 9), ("web", 10)]), ("time", 4, []),
            ("source", "app", [("app", 3), ("app", 4)]), ("source", "db_two", []), ("number", 9, [("web", 9)]),
        ):
            self.check_alike(store.looked_up(field, value), wanted)

    def test_no_index(self):
        store = filled_store()
        for field in ("user", "done", "time", "number", "none", ""):
            self.check_refused(store, errors.NoIndex, lambda one: one.looked_up(field, 5))
        store.drop_index("took")
        self.check_refused(store, errors.NoIndex, lambda one: one.looked_up("took", 1))
        store.undo()
        self.check_alike(store.looked_up("took", 1), [("old", 1), ("web", 1)])

    def test_rows_ahead_of_the_index_and_behind_it(self):
        for field in FIELDS:
            chance = random.Random(19)
            store = made(4, [])
            store.batch([made_row(chance, number) for number in range(30)])
            store.add_index(field)
            self.check_indexes(store)
            store.batch([made_row(chance, number) for number in range(30, 50)])
            self.check_indexes(store)

    def test_an_index_that_begins_again_by_undo_leads_to_rows_as_they_are(self):
        store = filled_store()
        store.drop_index("took")
        store.amend("web", 1, {"took": 500})
        store.undo()
        store.undo()
        self.check_indexes(store)
        self.assertEqual(store.looked_up("took", 500), [])
        store.redo()
        store.redo()
        store.add_index("took")
        self.check_alike(store.looked_up("took", 500), [("web", 1)])

    def test_behind_every_kind_of_deed(self):
        store = made(3)
        row = (5, "web", 0, {"took": 1, "user": "ann", "done": False})
        deeds = (
            lambda: store.add(row), lambda: store.add((5, "app", 0, {"took": 1})), lambda: store.amend("web", 0, {"took": 2}),
            lambda: store.strike("web", 0), lambda: store.batch([(time, "db_two", time, {"took": 1}) for time in range(8)]),
            lambda: store.floor("db_two", 4), store.tidy, lambda: store.drop_index("user"), lambda: store.add_index("user"),
        )
        for deed in deeds:
            deed()
            self.check_pieces(store, 3)
        self.check_alike(store.looked_up("took", 1), [("db_two", 4), ("app", 0), ("db_two", 5), ("db_two", 6), ("db_two", 7)])
        for ignored in deeds:
            store.undo()
            self.check_pieces(store, 3)
        self.check_alike(store.looked_up("took", 1), [])
        for ignored in deeds:
            store.redo()
            self.check_pieces(store, 3)


class Plans(Watching):
    def ten(self):
        """Tell a store of ten pieces, each with one row: even times of web, odd ones of app."""
        store = made(1)
        for time in range(10):
            fields = {"took": time * 10, "user": "ann" if time < 5 else "bob"}
            store.add((time, "app" if time % 2 else "web", time, {**fields, "done": True} if time == 3 else fields))
        return store

    def check_plan(self, store, text, wanted, **bounds):
        """Check by which papers pieces are left; wanted are papers and the places of the pieces that they bar."""
        told = [None] * len(store.pieces())
        for paper, places in wanted:
            for place in places:
                told[place] = paper
        with self.subTest(f"{text} {bounds}"):
            self.check_alike(store.plan(text, **bounds), told)

    def test_no_rows(self):
        store = made(8)
        for text in ("from all", "from web | where took > 5"):
            self.check_alike(store.plan(text, since=5), [])

    def test_sources_bounds_and_sifts(self):
        store = self.ten()
        odd, even = range(1, 10, 2), range(0, 10, 2)
        self.check_plan(store, "from all", [])
        self.check_plan(store, "from web", [(("sources", ("web",)), odd)])
        self.check_plan(store, "from app", [(("sources", ("app",)), even)])
        self.check_plan(store, "from app web", [])
        self.check_plan(store, "from db_two app", [(("sources", ("db_two", "app")), even)])
        since, until = (">=", ("field", "time"), ("number", 3)), ("<", ("field", "time"), ("number", 7))
        self.check_plan(store, "from all", [(since, range(3))], since=3)
        self.check_plan(store, "from all", [(until, range(7, 10))], until=7)
        self.check_plan(store, "from all", [(since, range(3)), (until, range(7, 10))], since=3, until=7)
        self.check_plan(store, "from app", [
            (since, range(3)), (until, range(7, 10)), (("sources", ("app",)), even)], since=3, until=7)
        took, user = (">=", ("field", "took"), ("number", 40)), ("=", ("field", "user"), ("word", "ann"))
        self.check_plan(store, "from all | where took >= 40", [(took, range(4))])
        self.check_plan(store, "from all | where took >= 40 and user = 'ann'", [(took, range(4)), (user, range(5, 10))])
        self.check_plan(store, "from all | where user = 'ann' | where took >= 40", [(took, range(4)), (user, range(5, 10))])
        self.check_plan(store, "from all | where user = 'ann' or took >= 40", [])
        self.check_plan(store, "from all | where not user = 'ann'", [])
        self.check_plan(store, "from all | where done", [(("field", "done"), [0, 1, 2, 4, 5, 6, 7, 8, 9])])
        self.check_plan(store, "from all | where has done", [(("has", "done"), [0, 1, 2, 4, 5, 6, 7, 8, 9])])
        self.check_plan(store, "from all | first 2 | where took >= 40", [])

    def test_joins(self):
        store = self.ten()
        since = (">=", ("field", "time"), ("number", 3))
        text = "from web | where took >= 40 | join app by user within 1"
        self.check_plan(store, text, [])
        self.check_plan(store, text, [(since, range(3))], since=3)

    def test_on_kept_questions(self):
        store = self.ten()
        took = (">=", ("field", "took"), ("number", 40))
        store.save("slow", "from all | where took >= 40")
        store.save("more", "from @slow | where took >= 60")
        store.save("joined", "from @slow | join web by user within 1")
        self.check_plan(store, "from @slow", [(took, range(4))])
        self.check_plan(store, "from @more | where user = 'ann'", [(took, range(4))])
        self.check_plan(store, "from @joined", [])
        self.check_plan(store, "from @joined | where user = 'ann'", [])
        self.check_plan(store, "from @joined", [((">=", ("field", "time"), ("number", 8)), range(8))], since=8)
        store.unsave("joined")
        store.save("slow", "from web", anew=True)
        self.check_plan(store, "from @more", [(("sources", ("web",)), range(1, 10, 2))])

    def test_refused(self):
        store = self.ten()
        for text, error, fields in (
            ("from", errors.BadText, {"at": 4}), ("from @none", errors.NoName, {}), ("from none", errors.BadStage, {"at": 0}),
            ("from all | keep none", errors.BadStage, {"at": 1}), ("from @none | keep none", errors.NoName, {}),
        ):
            for ask in (lambda one: one.plan(text), lambda one: one.answer(text), lambda one: one.reasons(text, 0),
                        lambda one: one.fields(text), lambda one: one.plan(text, since=1, until=2)):
                self.check_refused(store, error, ask, fields)

    def test_an_answer_is_that_of_all_rows_whatever_pieces_are_left(self):
        texts = (
            "from all", "from web", "from app db_two", "from web | where took > 0", "from all | where took = 2 and user = 'ann'",
            "from all | where took != 2 | where done", "from all | where not done", "from all | where has user | where took <= 0",
            "from web | join app by user within 3", "from web | where took > 1 | join web by took within 9 | where apart != 0",
            "from @slow", "from @slow | where user = 'bob' | fold many = count", "from @near | where took > 0", "from all | fold many = count",
            "from web | where took < -3 | fold many = count", "from all | where source = 'app' or time > 10",
        )
        left = 0
        for size in (1, 2, 8):
            chance = random.Random(size)
            store = made(size)
            kept = {"slow": "from all | where took > 0 and user != 'cid'", "near": "from @slow | join app by took within 2"}
            for name, text in kept.items():
                store.save(name, text)
            kept = {name: read_question(text) for name, text in kept.items()}
            store.batch([made_row(chance, number) for number in range(50)])
            for text, (since, until) in itertools.product(texts, ((None, None), (3, None), (None, 8), (0, 10), (5, 5))):
                with self.subTest(f"{text} {since} {until}"):
                    left += sum(paper is not None for paper in store.plan(text, since=since, until=until))
                    wanted = model_answer(read_question(text), store.rows(), kept, since, until)
                    self.check_alike(store.answer(text, since=since, until=until), [fields for fields, why in wanted])
                    for at, (fields, why) in enumerate(wanted):
                        self.check_alike(store.reasons(text, at, since=since, until=until), sorted(why))
                    for at in (-1, len(wanted)):
                        with self.assertRaises(errors.NoRow):
                            store.reasons(text, at, since=since, until=until)
        self.assertGreater(left, 500)

    def test_a_piece_that_is_left_is_left_rightly(self):
        """Without the rows of a piece that is left the answer is the same."""
        store = self.ten()
        for text in ("from web", "from all | where took >= 40 and user = 'bob'", "from app | where done"):
            told = store.answer(text)
            for piece, paper in zip(store.pieces(), store.plan(text)):
                if paper is not None:
                    other = store.twin()
                    for source, number in piece:
                        other.strike(source, number)
                    self.assertEqual(kind_and_value(other.answer(text)), kind_and_value(told))
