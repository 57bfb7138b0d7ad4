"""What holds over the whole program: what is told and handed in, parameters by name, and chance deeds beside a plain model."""

import copy
import inspect
import random

from logdelve import errors
from logdelve.pages import read_store, store_lines
from logdelve.questions import question_text, read_question
from logdelve.store import PIECE, Store
from tests.helper import KINDS, Watched, all_told, filled_store, kind_and_value, model_answer

DEEDS = (
    "source field add amend strike hold release floor add_index drop_index save unsave stand unstand tidy batch undo redo"
).split()
TELLERS = (
    "twin rows sources kinds floors holds struck indexes saves stands undoable redoable pieces summary looked_up answer reasons plan "
    "fields changes"
).split()


def spoil(told):
    """Change all lists and dicts in what was told, the inmost ones first."""
    if isinstance(told, (list, tuple)):
        for one in told:
            spoil(one)
    if isinstance(told, dict):
        for one in told.values():
            spoil(one)
        told["spoilt"] = "spoilt"
        told.pop(sorted(told)[0])
    if isinstance(told, list):
        told.reverse()
        told.append("spoilt")


class Told(Watched):
    """Each told list and dict changed by the caller, and the same told again."""

    ASKED = {
        **{name: (lambda store, name=name: getattr(store, name)()) for name in (
            "rows", "sources", "kinds", "floors", "holds", "struck", "indexes", "saves", "stands", "undoable", "redoable", "pieces")},
        "summary": lambda store: store.summary(0), "looked_up": lambda store: store.looked_up("source", "web"),
        "answer": lambda store: store.answer("from all"), "kept answer": lambda store: store.answer("from @by_user"),
        "reasons": lambda store: store.reasons("from all | fold many = count", 0),
        "reasons of a row": lambda store: store.reasons("from all", 0),
        "plan": lambda store: store.plan("from app"), "fields": lambda store: store.fields("from all"),
        "kept fields": lambda store: store.fields("from @slow"), "lines": store_lines,
    }

    def test_what_is_told(self):
        for name, ask in self.ASKED.items():
            with self.subTest(name):
                store = filled_store()
                before, wanted = all_told(store), kind_and_value(ask(store))
                spoil(ask(store))
                self.assertEqual(kind_and_value(ask(store)), wanted)
                self.assertEqual(all_told(store), before)

    def test_what_deeds_tell(self):
        for name, deed in {
            "amend": lambda store: store.amend("web", 1, {"took": 8}), "strike": lambda store: store.strike("web", 1),
            "batch": lambda store: store.batch([(100, "web", 100, {"took": 1})]), "changes": lambda store: self.changes(store),
        }.items():
            with self.subTest(name):
                store, other = filled_store(), filled_store()
                deed(other)
                spoil(deed(store))
                self.assertEqual(all_told(store), all_told(other))
                if name != "changes":
                    store.undo()
                    self.assertEqual(store.rows(), filled_store().rows())

    def changes(self, store):
        store.amend("web", 1, {"took": 500})
        return store.changes("every_row")

    def test_nobody_sees_them_change(self):
        store = filled_store()
        told = {name: ask(store) for name, ask in self.ASKED.items()}
        before = copy.deepcopy(told)
        store.strike("web", 1)
        store.batch([(time, "app", 100 + time, {"took": time}) for time in range(20)])
        store.amend("web", 0, {})
        store.floor("app", 10)
        store.tidy()
        store.changes("every_row")
        store.save("slow", "from web", anew=True)
        while store.undoable():
            store.undo()
        self.check_alike(told, before)

    def test_the_row_of_an_unlike_one(self):
        store = filled_store()
        with self.assertRaises(errors.Unlike) as caught:
            store.add((10, "web", 1, {}))
        caught.exception.row[3]["took"] = 77
        self.assertEqual(all_told(store), all_told(filled_store()))


class Handed(Watched):
    """What is handed in is neither changed nor kept."""

    def check(self, deed, handed):
        store, other = filled_store(), filled_store()
        before = copy.deepcopy(handed)
        deed(store, handed)
        self.check_alike(handed, before)
        deed(other, copy.deepcopy(handed))
        spoil(handed)
        self.assertEqual(all_told(store), all_told(other))
        store.undo()
        store.redo()
        self.assertEqual(all_told(store), all_told(other))

    def test_rows(self):
        self.check(lambda store, row: store.add(row), (100, "web", 100, {"took": 1, "user": "ann"}))

    def test_batches(self):
        for whole in (False, True):
            rows = [(time, "web", 100 + time, {"took": 1, "user": "ann"}) for time in range(5)]
            self.check(lambda store, handed: store.batch(handed, whole=whole), rows)

    def test_amended_fields(self):
        self.check(lambda store, fields: store.amend("web", 1, fields), {"took": 1, "user": "zed"})

    def test_again_and_refused_rows(self):
        store = filled_store()
        for row in ((10, "web", 1, {"took": 1, "user": "ann"}), (10, "web", 1, {"took": 2}), (30, "web", 3, {"took": 2})):
            before = copy.deepcopy(row)
            try:
                store.add(row)
            except errors.LogError:
                pass
            self.check_alike(row, before)
            spoil(row)
            self.assertEqual(all_told(store), all_told(filled_store()))


class Interface(Watched):
    def test_methods_stand_in_the_class_itself(self):
        for name in [*DEEDS, *TELLERS, "__init__", "__len__"]:
            self.assertIn(name, vars(Store))

    def test_parameters(self):
        for name, wanted in {
            "__init__": "(self, *, size=8)", "source": "(self, name)", "field": "(self, name, *, sort='number')", "add": "(self, row)",
            "amend": "(self, source, number, fields)", "strike": "(self, source, number)", "hold": "(self, name, source)",
            "release": "(self, name)", "floor": "(self, source, time)", "add_index": "(self, field)", "drop_index": "(self, field)",
            "save": "(self, name, question, *, anew=False)", "unsave": "(self, name)", "stand": "(self, name, question)",
            "unstand": "(self, name)", "tidy": "(self)", "batch": "(self, rows, *, whole=False)", "undo": "(self)", "redo": "(self)",
            "twin": "(self)", "summary": "(self, at)", "looked_up": "(self, field, value)",
            "answer": "(self, question, *, since=None, until=None)", "reasons": "(self, question, at, *, since=None, until=None)",
            "plan": "(self, question, *, since=None, until=None)", "fields": "(self, question)", "changes": "(self, name)",
        }.items():
            self.assertEqual(str(inspect.signature(vars(Store)[name])), wanted, name)
        self.assertEqual(str(inspect.signature(read_store)), "(lines)")
        self.assertEqual(str(inspect.signature(store_lines)), "(store)")
        self.assertEqual(PIECE, 8)

    def test_every_parameter_by_name_in_any_order(self):
        named, placed = Store(size=3), Store(size=3)
        for by_name, by_place in (
            (named.source(name="web"), placed.source("web")), (named.field(sort="word", name="user"), placed.field("user", sort="word")),
            (named.field(name="took"), placed.field("took")), (named.add(row=(1, "web", 0, {})), placed.add((1, "web", 0, {}))),
            (named.batch(whole=True, rows=[(2, "web", 1, {})]), placed.batch([(2, "web", 1, {})], whole=True)),
            (named.amend(fields={"took": 5}, number=1, source="web"), placed.amend("web", 1, {"took": 5})),
            (named.strike(number=0, source="web"), placed.strike("web", 0)), (named.floor(time=1, source="web"), placed.floor("web", 1)),
            (named.hold(source="web", name="keeper"), placed.hold("keeper", "web")), (named.release(name="keeper"), placed.release("keeper")),
            (named.add_index(field="took"), placed.add_index("took")), (named.looked_up(value=5, field="took"), placed.looked_up("took", 5)),
            (named.drop_index(field="took"), placed.drop_index("took")),
            (named.save(question="from all", name="kept"), placed.save("kept", "from all")),
            (named.save(anew=True, question="from web", name="kept"), placed.save("kept", "from web", anew=True)),
            (named.unsave(name="kept"), placed.unsave("kept")), (named.stand(question="from all", name="one"), placed.stand("one", "from all")),
            (named.changes(name="one"), placed.changes("one")), (named.unstand(name="one"), placed.unstand("one")),
            (named.summary(at=0), placed.summary(0)), (named.fields(question="from all"), placed.fields("from all")),
            (named.answer(until=9, since=0, question="from all"), placed.answer("from all", since=0, until=9)),
            (named.reasons(until=9, at=0, since=0, question="from all"), placed.reasons("from all", 0, since=0, until=9)),
            (named.plan(until=1, since=0, question="from all"), placed.plan("from all", since=0, until=1)),
        ):
            self.check_alike(by_name, by_place)
        self.assertEqual(all_told(named), all_told(placed))

    def test_parameters_behind_a_star_by_name_alone(self):
        store = filled_store()
        for wrong in (lambda: store.field("more", "word"), lambda: store.batch([], True), lambda: store.save("more", "from all", True),
                      lambda: store.answer("from all", 1), lambda: store.plan("from all", 1), lambda: store.reasons("from all", 0, 1)):
            with self.assertRaises(TypeError):
                wrong()

    def test_true_and_false_are_no_numbers(self):
        store = filled_store()
        store.field("many")
        for value in (True, False):
            with self.assertRaises(errors.BadField):
                store.add((100, "web", 100, {"many": value}))
        for value in (1, 0):
            with self.assertRaises(errors.BadField):
                store.add((100, "web", 100, {"done": value}))
        store.add((100, "web", 100, {"many": 1, "done": True}))
        self.check_alike(store.rows()[-1], (100, "web", 100, {"many": 1, "done": True}))
        self.check_alike(store.answer("from web | where number = 100 | keep many done"), [{"many": 1, "done": True}])


class Model:
    """A store without pieces, plans and indexes: all that it holds is copied ahead of every deed."""

    def __init__(self):
        self.held = {"sources": [], "kinds": {}, "floors": {}, "rows": [], "struck": [], "saves": {}, "stands": {}, "holds": {}, "indexes": []}
        self.ahead, self.behind, self.last = [], [], {}

    def did(self, word, **newer):
        self.ahead.append((word, self.held))
        self.behind = []
        self.bring({**self.held, **newer})

    def bring(self, held):
        self.held = copy.deepcopy(held)
        self.last = {name: self.last[name] if name in self.last else self.asked(text) for name, text in held["stands"].items()}

    def undo(self):
        word, held = self.ahead.pop()
        self.behind.append((word, self.held))
        self.bring(held)
        return word

    def redo(self):
        word, held = self.behind.pop()
        self.ahead.append((word, self.held))
        self.bring(held)
        return word

    def asked(self, text, since=None, until=None):
        kept = {name: read_question(one) for name, one in self.held["saves"].items()}
        return [fields for fields, why in model_answer(read_question(text), self.held["rows"], kept, since, until)]

    def word_for(self, row):
        """Tell the word of a row, or the name of the error that refuses it."""
        if row[0] < self.held["floors"].get(row[1], row[0]):
            return "past"
        if list(row[1:3]) in self.held["struck"]:
            return "Struck"
        same = [one for one in self.held["rows"] if one[1:3] == row[1:3]]
        return "new" if not same else "again" if same == [row] else "Unlike"

    def batch(self, rows, whole, word="batch"):
        words, kept = [], self.held["rows"]
        before = self.held
        for row in rows:
            words.append(self.word_for(row))
            if words[-1] in ("Struck", "Unlike"):
                break
            if words[-1] == "new":
                self.held = {**before, "rows": [*self.held["rows"], row]}
        fresh, self.held = self.held["rows"], before
        refused = words[-1:] and words[-1] in ("Struck", "Unlike")
        if len(fresh) > len(kept) and not (refused and whole):
            self.did(word, rows=sorted(fresh, key=lambda row: row[:3]))
        return words[-1] if refused else words

    def let_go(self, source, time):
        rows = [row for row in self.held["rows"] if row[1] != source or row[0] >= time]
        many = len(self.held["rows"]) - len(rows)
        self.did("floor", rows=rows, floors={**self.held["floors"], source: time})
        return many

    def row_at(self, source, number):
        return [row for row in self.held["rows"] if row[1:3] == (source, number)][0]

    def amend(self, source, number, fields):
        elder = self.row_at(source, number)
        rows = [(*row[:3], fields) if row == elder else row for row in self.held["rows"]]
        self.did("amend", rows=rows)
        return elder[3]

    def strike(self, source, number):
        elder = self.row_at(source, number)
        rows = [row for row in self.held["rows"] if row != elder]
        self.did("strike", rows=rows, struck=sorted([*self.held["struck"], [source, number]]))
        return elder


class ByChance(Watched):
    """Deeds by chance, done to a store and to the model."""

    QUESTIONS = (
        "from all", "from web | where took > 2", "from all | fold many = count, total = sum took by user", "from app web | sort took down",
        "from web | join app by user within 4", "from all | sessions 2 by source | fold many = unlike session", "from all | where done | keep user",
    )

    def setUp(self):
        self.chance = random.Random(1)

    def row(self):
        chance = self.chance
        fields = {"took": chance.randint(0, 5), "user": chance.choice(["ann", "bob"]), "done": chance.random() < 0.5}
        fields = {name: value for name, value in fields.items() if chance.random() < 0.5}
        return (chance.randint(0, 15), chance.choice(["web", "app"]), chance.randint(0, 25), fields)

    def outcome(self, deed):
        try:
            return deed()
        except (errors.Struck, errors.Unlike) as caught:
            return type(caught).__name__

    def rows_deed(self, store, model):
        chance, rows = self.chance, model.held["rows"]
        choice = chance.random()
        if choice < 0.4 or not rows:
            row = chance.choice(rows) if rows and chance.random() < 0.2 else self.row()
            told = model.batch([row], True, "add")
            return self.outcome(lambda: store.add(copy.deepcopy(row))), told[0] if isinstance(told, list) else told
        if choice < 0.6:
            many, whole = [self.row() for ignored in range(chance.randint(0, 4))], chance.random() < 0.5
            return self.outcome(lambda: store.batch(copy.deepcopy(many), whole=whole)), model.batch(many, whole)
        row, fields = chance.choice(rows), self.row()[3]
        if choice < 0.75:
            return store.amend(row[1], row[2], fields), model.amend(row[1], row[2], copy.deepcopy(fields))
        if choice < 0.9:
            return store.strike(row[1], row[2]), model.strike(row[1], row[2])
        source = row[1]
        time = max(model.held["floors"].get(source, 0), chance.randint(0, 6))
        return store.floor(source, time), model.let_go(source, time)

    def names_deed(self, store, model):
        chance = self.chance
        name, text = chance.choice("abc"), question_text(read_question(chance.choice(self.QUESTIONS)))
        table = chance.choice(["stands", "saves", "indexes", "tidy"])
        if table == "tidy":
            return store.tidy(), model.did("tidy")
        if table == "indexes":
            field = chance.choice(["took", "user", "done", "time", "source", "number"])
            fields = model.held["indexes"]
            if field in fields:
                return store.drop_index(field), model.did("drop_index", indexes=[one for one in fields if one != field])
            return store.add_index(field), model.did("add_index", indexes=sorted([*fields, field]))
        held = model.held[table]
        if table == "saves":
            return store.save(name, text, anew=True), model.did("save", saves={**held, name: text})
        if name in held:
            return store.unstand(name), model.did("unstand", stands={one: held[one] for one in held if one != name})
        if chance.random() < 0.3 and model.held["saves"]:
            text = "from @" + min(model.held["saves"])
        return store.stand(name, text), model.did("stand", stands={**held, name: text})

    def turned_deed(self, store, model):
        if self.chance.random() < 0.6 and len(model.ahead) > 5:
            return store.undo(), model.undo()
        if model.behind:
            return store.redo(), model.redo()
        return None, None

    def check(self, store, model):
        held = model.held
        self.check_alike(store.rows(), held["rows"])
        self.assertEqual([list(pair) for pair in store.struck()], held["struck"])
        self.assertEqual(store.floors(), held["floors"])
        self.assertEqual(store.indexes(), held["indexes"])
        self.assertEqual((dict(store.saves()), dict(store.stands())), (held["saves"], held["stands"]))
        self.assertEqual(store.undoable(), [word for word, ignored in model.ahead])
        self.assertEqual(store.redoable(), [word for word, ignored in model.behind[::-1]])
        text, bounds = self.chance.choice(self.QUESTIONS), self.chance.choice([(None, None), (3, 9), (5, None), (None, 8)])
        self.check_alike(store.answer(text, since=bounds[0], until=bounds[1]), model.asked(text, *bounds))
        for name in held["stands"]:
            if self.chance.random() < 0.1:
                newer = model.asked(held["stands"][name])
                self.check_changes(store.changes(name), model.last[name], newer)
                model.last[name] = newer

    def check_changes(self, told, elder, newer):
        for rows, more, less in ((told[0], elder, newer), (told[1], newer, elder)):
            left = [kind_and_value(row) for row in more]
            for row in less:
                if kind_and_value(row) in left:
                    left.remove(kind_and_value(row))
            self.assertEqual(sorted(map(str, left)), sorted(str(kind_and_value(row)) for row in rows))

    def test_beside_the_model(self):
        for size in (1, 2, 5, 8, 50):
            store, model = Store(size=size), Model()
            for source in ("app", "web"):
                store.source(source)
                model.did("source", sources=[*model.held["sources"], source])
            for name, sort in KINDS.items():
                store.field(name, sort=sort)
                model.did("field", kinds={**model.held["kinds"], name: sort})
            for ignored in range(250):
                deed = self.chance.choice([self.rows_deed, self.rows_deed, self.names_deed, self.turned_deed])
                told, wanted = deed(store, model)
                self.check_alike(told, wanted)
                self.check(store, model)
                if self.chance.random() < 0.05:
                    store = store.twin()
                if self.chance.random() < 0.05:
                    self.assertEqual(store_lines(read_store(store_lines(store))), store_lines(store))
