"""Deeds taken back and done again, and twins."""

from logdelve import errors
from logdelve.pages import store_lines
from logdelve.store import Store
from tests.helper import KINDS, Watched, all_told, filled_store, kind_and_value

# One of every kind, in an order in which all of them are done.
DEEDS = (
    ("source", lambda store: store.source("web")), ("source", lambda store: store.source("app")),
    ("field", lambda store: store.field("took")), ("field", lambda store: store.field("user", sort="word")),
    ("add", lambda store: store.add((5, "web", 0, {"took": 5, "user": "ann"}))),
    ("batch", lambda store: store.batch([(time, "web", time + 1, {"took": time}) for time in range(9)])),
    ("add_index", lambda store: store.add_index("took")), ("add_index", lambda store: store.add_index("time")),
    ("amend", lambda store: store.amend("web", 3, {"user": "bob"})),
    ("stand", lambda store: store.stand("rows", "from all | keep number took")),
    ("strike", lambda store: store.strike("web", 4)),
    ("floor", lambda store: store.floor("web", 2)), ("floor", lambda store: store.floor("web", 2)),
    ("hold", lambda store: store.hold("keeper", "web")),
    ("tidy", lambda store: store.tidy()),
    ("add", lambda store: store.add((3, "app", 0, {}))),
    ("save", lambda store: store.save("slow", "from all | where took > 3")),
    ("save", lambda store: store.save("slower", "from @slow | where took > 5")),
    ("save", lambda store: store.save("slow", "from all | where took > 4", anew=True)),
    ("stand", lambda store: store.stand("watch", "from @slower")),
    ("drop_index", lambda store: store.drop_index("time")),
    ("release", lambda store: store.release("keeper")),
    ("unstand", lambda store: store.unstand("watch")), ("unsave", lambda store: store.unsave("slower")),
    ("floor", lambda store: store.floor("web", 6)),
    ("tidy", lambda store: store.tidy()), ("tidy", lambda store: store.tidy()),
    ("strike", lambda store: store.strike("app", 0)),
)
WORDS = [word for word, deed in DEEDS]


def told_of(store):
    """Tell all that a store tells, but what can be taken back and done again, and what changed in answers."""
    told = {name: getattr(store, name)() for name in (
        "rows", "sources", "kinds", "floors", "holds", "struck", "indexes", "saves", "stands", "pieces")}
    told["lines"] = store_lines(store)
    told["found"] = [store.looked_up(field, value) for field in store.indexes() for value in range(10)]
    told["answers"] = [store.answer(text) for name, text in store.saves() + store.stands()]
    return kind_and_value(told)


class Undo(Watched):
    def test_every_kind_of_deed_to_the_first_one_and_to_the_last_one(self):
        for size in (1, 3, 50):
            store = Store(size=size)
            told = [told_of(store)]
            for word, deed in DEEDS:
                deed(store)
                told.append(told_of(store))
            self.assertEqual(store.undoable(), WORDS)
            for ignored in range(3):
                for many in range(len(DEEDS) - 1, -1, -1):
                    self.assertEqual(store.undo(), WORDS[many])
                    self.assertEqual(told_of(store), told[many])
                    self.assertEqual((store.undoable(), store.redoable()), (WORDS[:many], WORDS[many:]))
                self.check_refused(store, errors.NothingLeft, lambda one: one.undo())
                for many in range(1, len(DEEDS) + 1):
                    self.assertEqual(store.redo(), WORDS[many - 1])
                    self.assertEqual(told_of(store), told[many])
                    self.assertEqual((store.undoable(), store.redoable()), (WORDS[:many], WORDS[many:]))
                self.check_refused(store, errors.NothingLeft, lambda one: one.redo())

    def test_each_deed_by_itself(self):
        store = Store(size=3)
        for word, deed in DEEDS:
            ahead = told_of(store)
            deed(store)
            behind = told_of(store)
            self.assertEqual(store.undo(), word)
            self.assertEqual(told_of(store), ahead)
            self.assertEqual(store.redo(), word)
            self.assertEqual(told_of(store), behind)

    def test_nothing_left(self):
        store = Store()
        self.check_refused(store, errors.NothingLeft, lambda one: one.undo())
        self.check_refused(store, errors.NothingLeft, lambda one: one.redo())
        store.source("web")
        self.check_refused(store, errors.NothingLeft, lambda one: one.redo())
        store.undo()
        self.check_refused(store, errors.NothingLeft, lambda one: one.undo())

    def test_what_can_be_done_again_is_gone_behind_another_deed(self):
        for at, (word, deed) in enumerate(DEEDS):
            store = Store(size=3)
            for other in DEEDS[:at]:
                other[1](store)
            store.source("zebra")
            store.undo()
            self.assertEqual(store.redoable(), ["source"])
            deed(store)
            self.assertEqual(store.redoable(), [])
            self.check_refused(store, errors.NothingLeft, lambda one: one.redo())

    def test_what_is_no_deed_leaves_it(self):
        store = filled_store()
        deeds = store.undoable()
        store.add((10, "web", 1, {"took": 1, "user": "ann"}))
        store.add((2, "old", 9, {}))
        store.batch([(10, "web", 1, {"took": 1, "user": "ann"}), (2, "old", 9, {})])
        store.batch([], whole=True)
        store.changes("watch")
        store.answer("from all")
        store.twin()
        for refused in (lambda: store.source("web"), lambda: store.add((1, "none", 0, {})), lambda: store.amend("web", 99, {}),
                        lambda: store.batch([(1, "web", -1, {})]), lambda: store.floor("web", 1), lambda: store.unsave("slow")):
            with self.assertRaises((errors.LogError, errors.NotThere)):
                refused()
        self.assertEqual((store.undoable(), store.redoable()), (deeds, ["source"]))
        self.assertEqual(store.redo(), "source")
        self.assertIn("zebra", store.sources())

    def test_a_floor_that_let_nothing_go_is_a_deed(self):
        store = filled_store()
        store.floor("db_two", 5)
        self.assertEqual(store.undo(), "floor")
        self.check_alike(store.floors(), {"old": 3})
        store.floor("old", 3)
        self.assertEqual(store.undo(), "floor")
        self.check_alike(store.floors(), {"old": 3})

    def test_struck_rows_come_again_when_the_striking_is_taken_back(self):
        store = filled_store()
        row = store.strike("web", 1)
        store.undo()
        self.assertEqual(store.add(row), "again")
        self.check_alike(store.struck(), [("web", 3)])
        store.redo()
        with self.assertRaises(errors.Struck):
            store.add(row)

    def test_words_with_several_undone(self):
        store = Store()
        store.source("web")
        store.field("took")
        store.hold("keeper", "web")
        store.undo()
        store.undo()
        self.check_alike((store.undoable(), store.redoable()), (["source"], ["field", "hold"]))


class Twins(Watched):
    def test_a_twin_tells_the_same(self):
        store = filled_store()
        twin = store.twin()
        self.assertIs(type(twin), Store)
        self.assertIsNot(twin, store)
        self.assertEqual(all_told(twin), all_told(store))
        self.assertEqual(kind_and_value(twin.answer("from @by_user")), kind_and_value(store.answer("from @by_user")))

    def test_each_goes_its_own_way(self):
        for word, deed in (
            ("source", lambda store: store.source("more")), ("field", lambda store: store.field("more")),
            ("add", lambda store: store.add((26, "app", 50, {"took": 1}))), ("amend", lambda store: store.amend("web", 1, {"took": 8})),
            ("strike", lambda store: store.strike("web", 1)), ("floor", lambda store: store.floor("app", 26)),
            ("batch", lambda store: store.batch([(time, "app", time, {"took": 16}) for time in range(100, 110)])),
            ("hold", lambda store: store.hold("more", "app")), ("release", lambda store: store.release("keeper")),
            ("add_index", lambda store: store.add_index("user")), ("drop_index", lambda store: store.drop_index("took")),
            ("save", lambda store: store.save("slow", "from web", anew=True)), ("stand", lambda store: store.stand("more", "from all")),
            ("unstand", lambda store: store.unstand("watch")), ("tidy", lambda store: store.tidy()),
            ("undo", lambda store: store.undo()), ("redo", lambda store: store.redo()),
            ("changes", lambda store: [store.strike("web", 1), store.changes("every_row")]),
        ):
            with self.subTest(word):
                for first, second in ((0, 1), (1, 0)):
                    store = filled_store()
                    pair = [store, store.twin()]
                    before = all_told(pair[1])
                    deed(pair[first])
                    self.assertEqual(all_told(pair[second]), before)
                    self.assertNotEqual(all_told(pair[first]), before)
                    deed(pair[second])
                    self.assertEqual(all_told(pair[0]), all_told(pair[1]))

    def test_what_can_be_taken_back_and_done_again(self):
        store = filled_store()
        twin = store.twin()
        self.assertEqual(twin.redo(), "source")
        self.assertIn("zebra", twin.sources())
        self.assertNotIn("zebra", store.sources())
        while twin.undoable():
            twin.undo()
        self.check_alike((len(twin), twin.pieces(), twin.sources()), (0, [], []))
        self.assertEqual(all_told(store), all_told(filled_store()))
        while twin.redoable():
            twin.redo()
        store.redo()
        self.assertEqual(told_of(twin), told_of(store))

    def test_a_twin_of_a_twin_and_sizes(self):
        for size in (1, 50):
            store = Store(size=size).twin().twin()
            self.assertEqual(store_lines(store), [f"size {size}"])

    def test_a_twin_of_a_store_with_all_sorts(self):
        store = Store()
        store.source("web")
        for name, sort in KINDS.items():
            store.field(name, sort=sort)
            store.add_index(name)
        store.add((1, "web", 0, {"took": 1, "user": "ann", "done": True}))
        twin = store.twin()
        store.amend("web", 0, {})
        self.check_alike(twin.looked_up("done", True), [("web", 0)])
        self.check_alike(store.looked_up("done", True), [])
