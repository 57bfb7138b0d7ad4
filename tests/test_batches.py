"""Batches, the store at work, and rows that come in whatever order and however often."""

import itertools
import random

from logdelve import errors
from logdelve.pages import store_lines
from logdelve.store import Store
from tests.helper import Watched, all_told, filled_store, kind_and_value

NEW = [(100, "web", 20, {"took": 1}), (90, "web", 21, {}), (100, "app", 20, {"user": "ann"})]
AGAIN = [(25, "app", 0, {"done": False}), (10, "web", 1, {"took": 1, "user": "ann"})]
PAST = [(2, "old", 50, {}), (-100, "old", 51, {"took": 1})]
REFUSED = (
    ((1, "none", 0, {}), errors.NoSource, {}),
    ((1, "web", -1, {}), errors.BadNumber, {}),
    ((1, "web", 60, {"none": 1}), errors.BadField, {"name": "none"}),
    ((1, "web", 3, {}), errors.Struck, {}),
    ((1, "web", 1, {}), errors.Unlike, {"row": (10, "web", 1, {"took": 1, "user": "ann"})}),
)


class Batches(Watched):
    def test_new_doubled_and_past_rows(self):
        for whole in (False, True):
            store = filled_store()
            many, deeds = len(store), store.undoable()
            rows = [NEW[0], AGAIN[0], NEW[1], PAST[0], NEW[0], NEW[2], PAST[1], AGAIN[1], NEW[1]]
            self.check_alike(
                store.batch(rows, whole=whole), ["new", "again", "new", "past", "again", "new", "past", "again", "again"])
            self.assertEqual(len(store), many + 3)
            for row in NEW:
                self.assertIn(row, store.rows())
            self.assertEqual(store.undoable(), [*deeds, "batch"])
            self.assertEqual(store.redoable(), [])

    def test_nothing_new_is_no_deed(self):
        for whole in (False, True):
            for rows in ([], AGAIN, PAST, [*PAST, *AGAIN, *AGAIN]):
                store = filled_store()
                before = all_told(store)
                self.check_alike(store.batch(rows, whole=whole), [
                    "again" if row in AGAIN else "past" for row in rows])
                self.assertEqual(all_told(store), before)
                self.assertEqual(store.redoable(), ["source"])

    def test_a_batch_is_as_its_rows_one_by_one(self):
        rows = [*NEW, *AGAIN, *PAST]
        batched, single = filled_store(), filled_store()
        words = batched.batch(rows)
        self.assertEqual([single.add(row) for row in rows], words)
        self.assertEqual(store_lines(batched), store_lines(single))

    def test_unlike_rows_within_a_batch(self):
        store = filled_store()
        rows = [NEW[0], (100, "web", 20, {"took": 2})]
        self.check_refused(store, errors.Unlike, lambda one: one.batch(rows, whole=True), {"row": NEW[0]})
        with self.assertRaises(errors.Unlike) as caught:
            store.batch(rows)
        self.check_alike(caught.exception.row, NEW[0])
        self.assertIn(NEW[0], store.rows())

    def test_whole_nothing_of_a_refused_batch_is_kept(self):
        for row, error, fields in REFUSED:
            for at in range(len(NEW) + 1):
                rows = [*NEW[:at], row, *NEW[at:]]
                store = filled_store()
                self.check_refused(store, error, lambda one: one.batch(rows, whole=True), fields)

    def test_else_the_rows_ahead_are_kept_as_one_deed(self):
        for row, error, fields in REFUSED:
            for at in range(1, len(NEW) + 1):
                store, other = filled_store(), filled_store()
                with self.assertRaises(error) as caught:
                    store.batch([*AGAIN, *NEW[:at], row, *NEW[at:]], whole=False)
                for name, value in fields.items():
                    self.check_alike(getattr(caught.exception, name), value)
                other.batch(NEW[:at])
                self.assertEqual(all_told(store), all_told(other))
                self.assertEqual(store.undoable()[-2:], ["tidy", "batch"])
                self.assertEqual(store.undo(), "batch")
                self.assertEqual(store_lines(store), store_lines(filled_store()))

    def test_else_with_nothing_new_ahead_it_is_no_deed(self):
        for row, error, fields in REFUSED:
            for ahead in ([], AGAIN, PAST):
                store = filled_store()
                self.check_refused(store, error, lambda one: one.batch([*ahead, row, *NEW]), fields)

    def test_the_first_refused_row_is_told(self):
        store = filled_store()
        for one, other in itertools.permutations(REFUSED, 2):
            self.check_refused(store, one[1], lambda held: held.batch([one[0], NEW[0], other[0]], whole=True), one[2])

    def test_taken_back_and_done_again(self):
        store = filled_store()
        before = all_told(store)
        store.redo()
        store.undo()
        self.assertEqual(all_told(store), before)
        rows_before, pieces_before = store.rows(), store.pieces()
        store.batch(NEW)
        behind = all_told(store)
        self.assertEqual(store.undo(), "batch")
        self.assertEqual((store.rows(), store.pieces()), (rows_before, pieces_before))
        self.assertEqual(store.redo(), "batch")
        self.assertEqual(all_told(store), behind)

    def test_a_large_batch(self):
        for size in (1, 8, 50):
            store = Store(size=size)
            store.source("web")
            rows = [(time * 7 % 200, "web", time, {}) for time in range(200)]
            self.assertEqual(store.batch(rows), ["new"] * 200)
            self.assertEqual(store.rows(), sorted(rows, key=lambda row: row[:3]))
            self.assertEqual(store.undoable(), ["source", "batch"])


class Meddling(list):
    """A list of rows that does a deed whenever a row is taken from it."""

    def __init__(self, rows, deed):
        super().__init__(rows)
        self.deed = deed

    def __iter__(self):
        for row in super().__iter__():
            self.deed()
            yield row


class AtWork(Watched):
    DEEDS = {
        "source": lambda store: store.source("more"), "field": lambda store: store.field("more"),
        "add": lambda store: store.add(NEW[0]), "again": lambda store: store.add(AGAIN[0]),
        "batch": lambda store: store.batch(NEW), "empty batch": lambda store: store.batch([]),
        "amend": lambda store: store.amend("web", 1, {}), "strike": lambda store: store.strike("web", 1),
        "hold": lambda store: store.hold("more", "web"), "release": lambda store: store.release("keeper"),
        "floor": lambda store: store.floor("app", 100), "add_index": lambda store: store.add_index("user"),
        "drop_index": lambda store: store.drop_index("took"), "save": lambda store: store.save("more", "from all"),
        "unsave": lambda store: store.unsave("by_user"), "stand": lambda store: store.stand("more", "from all"),
        "unstand": lambda store: store.unstand("watch"), "tidy": lambda store: store.tidy(),
        "wrong name": lambda store: store.source("by"), "undo": lambda store: store.undo(), "redo": lambda store: store.redo(),
    }

    def test_every_other_deed_is_refused_meanwhile(self):
        for name, deed in self.DEEDS.items():
            with self.subTest(name):
                store, other = filled_store(), filled_store()

                def meddle():
                    with self.assertRaises(errors.Busy):
                        deed(store)

                self.assertEqual(store.batch(Meddling(NEW, meddle)), ["new"] * 3)
                other.batch(NEW)
                self.assertEqual(all_told(store), all_told(other))

    def test_behind_a_deed_that_was_done_the_store_takes_the_next_one(self):
        for name, deed in self.DEEDS.items():
            with self.subTest(name):
                store = filled_store()
                try:
                    deed(store)
                except errors.LogError:
                    pass
                self.assertIsNone(store.source("next_one"))

    def test_behind_a_refused_batch_the_store_takes_the_next_deed(self):
        for row, error, fields in REFUSED:
            for whole in (False, True):
                store = filled_store()
                with self.assertRaises(error):
                    store.batch([NEW[0], row], whole=whole)
                self.assertEqual(store.add(NEW[1]), "new")
                self.assertEqual(store.batch([NEW[2]]), ["new"])

    def test_behind_a_batch_that_ended_by_another_error(self):
        def fail():
            raise KeyError("not an error of the store")

        store = filled_store()
        before = all_told(store)
        with self.assertRaises(KeyError):
            store.batch(Meddling(NEW, fail))
        self.assertEqual(all_told(store), before)
        self.assertEqual(store.add(NEW[0]), "new")

    def test_what_is_told_is_no_deed(self):
        store = filled_store()
        told = []
        store.batch(Meddling(NEW[:1], lambda: told.append(all_told(store))))
        self.assertEqual(len(told), 1)


class AnyOrder(Watched):
    """The same rows in several orders, doubled, in batches or not, in stores of several sizes."""

    ROWS = [
        (time, source, number, fields)
        for number, (time, fields) in enumerate([
            (5, {"took": 3}), (5, {"user": "ann"}), (-2, {"done": True, "took": 0}), (9, {}), (7, {"took": 3, "user": "bob"}),
        ])
        for source in ("web", "app")
    ]
    QUESTIONS = (
        "from all", "from web | where took = 3", "from all | fold many = count, total = sum took by user",
        "from web | join app by took within 3", "from all | sort took down | first 4", "from all | sessions 2 by source",
    )

    def made(self, size):
        store = Store(size=size)
        for source in ("web", "app"):
            store.source(source)
        for name, sort in (("took", "number"), ("user", "word"), ("done", "flag")):
            store.field(name, sort=sort)
        for field in ("took", "user", "done", "time", "source", "number"):
            store.add_index(field)
        return store

    def told(self, store):
        lookups = [store.looked_up(field, value) for field, value in (
            ("took", 3), ("took", 0), ("took", 1), ("user", "ann"), ("done", True), ("time", 5), ("source", "web"), ("number", 4))]
        answers = [store.answer(text) for text in self.QUESTIONS]
        reasons = [store.reasons(text, at) for text, rows in zip(self.QUESTIONS, answers) for at in range(len(rows))]
        return kind_and_value([store.rows(), len(store), lookups, answers, reasons, store_lines(store)[1:]])

    def fillings(self):
        chance = random.Random(15)
        yield lambda store: [store.add(row) for row in self.ROWS]
        yield lambda store: [store.add(row) for row in self.ROWS[::-1]]
        yield lambda store: store.batch(self.ROWS)
        yield lambda store: store.batch([*self.ROWS, *self.ROWS[::-1]], whole=True)
        yield lambda store: [store.batch(self.ROWS[at:at + 3]) for at in (6, 0, 3, 9, 0, 6)]
        for ignored in range(10):
            rows = chance.sample(self.ROWS * 3, 30)
            cut = chance.randrange(30)
            yield lambda store: [store.batch(rows[:cut]), *[store.add(row) for row in rows[cut:]]]

    def test_the_same_is_told(self):
        wanted = None
        for size in (1, 2, 3, 8, 50):
            for fill in self.fillings():
                store = self.made(size)
                fill(store)
                wanted = wanted or self.told(store)
                self.assertEqual(self.told(store), wanted)
                store.tidy()
                self.assertEqual(self.told(store), wanted)

    def test_rows_that_were_let_go_or_struck_do_not_come_again(self):
        told = []
        for rows in (self.ROWS, self.ROWS[::-1]):
            store = self.made(2)
            store.batch(rows)
            store.floor("web", 6)
            store.strike("app", 3)
            words = [store.add(row) for row in rows if row[1:3] != ("app", 3)]
            self.assertEqual(sorted(words), ["again"] * 6 + ["past"] * 3)
            told.append(self.told(store))
        self.assertEqual(told[0], told[1])
