"""Questions asked of a store, kept ones, and standing ones."""

import itertools

from logdelve import errors
from logdelve.standing import changed
from logdelve.store import Store
from tests.helper import KINDS, Watched, all_told, filled_store, kind_and_value


def small_store():
    store = Store(size=2)
    for source in ("web", "app"):
        store.source(source)
    for name, sort in KINDS.items():
        store.field(name, sort=sort)
    store.batch([
        (1, "web", 0, {"took": 5, "user": "ann"}), (2, "web", 1, {"took": 50, "user": "bob"}), (2, "app", 0, {"user": "ann"}),
        (8, "web", 2, {"took": 70, "user": "ann", "done": True}),
    ])
    return store


class Asked(Watched):
    def test_answers(self):
        store = small_store()
        self.check_alike(store.answer("from web | where took > 5"), [
            {"time": 2, "source": "web", "number": 1, "took": 50, "user": "bob"},
            {"time": 8, "source": "web", "number": 2, "took": 70, "user": "ann", "done": True},
        ])
        self.check_alike(store.answer("from all|fold many=count by user|sort many down"), [
            {"user": "ann", "many": 3}, {"user": "bob", "many": 1}])
        self.check_alike(store.answer("from web | where no"), [])

    def test_since_and_until(self):
        store = small_store()
        for since, until, numbers in (
            (None, None, [0, 0, 1, 2]), (1, None, [0, 0, 1, 2]), (2, None, [0, 1, 2]), (3, None, [2]), (9, None, []), (None, 1, []),
            (None, 2, [0]), (None, 3, [0, 0, 1]), (2, 3, [0, 1]), (2, 2, []), (None, 0, []), (0, None, [0, 0, 1, 2]),
        ):
            told = store.answer("from all", since=since, until=until)
            self.assertEqual([row["number"] for row in told], numbers)

    def test_joined_rows_are_bounded_too(self):
        store = small_store()
        text = "from web | join app by user within 9"
        self.assertEqual([row["number"] for row in store.answer(text)], [0, 2])
        self.assertEqual([row["number"] for row in store.answer(text, since=2)], [2])
        self.assertEqual(store.answer(text, since=3), [])
        self.assertEqual(store.answer(text, until=2), [])

    def test_reasons(self):
        store = small_store()
        text = "from web | join app by user within 9 | fold many = count by user"
        self.check_alike(store.reasons(text, 0), [("app", 0), ("web", 0), ("web", 2)])
        self.check_alike(store.reasons(text, 0, since=2), [("app", 0), ("web", 2)])
        self.check_alike(store.reasons("from all", 2), [("web", 1)])
        for at in (-1, 1, 2):
            self.check_refused(store, errors.NoRow, lambda one: one.reasons(text, at))
        self.check_refused(store, errors.NoRow, lambda one: one.reasons(text, 0, until=2))

    def test_refusals_go_ahead_of_no_row(self):
        store = small_store()
        for text, error in (("from", errors.BadText), ("from @none", errors.NoName), ("from none", errors.BadStage)):
            self.check_refused(store, error, lambda one: one.reasons(text, 99))

    def test_fields(self):
        store = small_store()
        flat = {**KINDS, "time": "number", "source": "word", "number": "number"}
        self.check_alike(store.fields("from all"), flat)
        self.check_alike(store.fields("from web | every 5 | drop took"), {
            **{name: sort for name, sort in flat.items() if name != "took"}, "span": "number"})
        store.field("more", sort="flag")
        self.check_alike(store.fields("from all"), {**flat, "more": "flag"})
        store.undo()
        self.check_alike(store.fields("from all"), flat)

    def test_asking_changes_nothing(self):
        store = filled_store()
        before = all_told(store)
        store.answer("from all")
        store.reasons("from all", 0)
        store.plan("from all")
        store.fields("from all")
        self.assertEqual(all_told(store), before)


class Kept(Watched):
    def test_answers_fields_and_reasons_of_questions_that_lean_on_others(self):
        store = small_store()
        store.save("slow", "from web | where took > 5")
        store.save("users", "from @slow | fold many = count by user")
        store.save("most_slow", "from @users | sort many down | first 1")
        self.check_alike(store.answer("from @most_slow"), [{"user": "bob", "many": 1}])
        self.check_alike(store.answer("from @users | sort user up | keep user"), [{"user": "ann"}, {"user": "bob"}])
        self.check_alike(store.fields("from @most_slow | with more = many > 1"), {"user": "word", "many": "number", "more": "flag"})
        self.check_alike(store.reasons("from @users", 1), [("web", 2)])
        self.check_alike(store.reasons("from @most_slow", 0), [("web", 1)])
        self.check_alike(store.answer("from @users", since=3), [{"user": "ann", "many": 1}])

    def test_by_the_kept_ones_as_they_are_then(self):
        store = small_store()
        store.save("slow", "from web | where took > 5")
        store.save("users", "from @slow | fold many = count by user")
        store.save("slow", "from all", anew=True)
        self.check_alike(store.answer("from @users"), [{"user": "ann", "many": 3}, {"user": "bob", "many": 1}])
        self.check_alike(store.reasons("from @users", 0), [("app", 0), ("web", 0), ("web", 2)])
        store.save("slow", "from all | keep user", anew=True)
        self.check_alike(store.fields("from @slow"), {"user": "word"})
        self.check_alike(store.answer("from @slow | first 1"), [{"user": "ann"}])
        store.undo()
        store.undo()
        self.check_alike(store.answer("from @users"), [{"user": "bob", "many": 1}, {"user": "ann", "many": 1}])
        store.redo()
        self.check_alike(store.answer("from @users"), [{"user": "ann", "many": 3}, {"user": "bob", "many": 1}])

    def test_names_that_are_kept_no_more(self):
        store = small_store()
        store.save("slow", "from web")
        store.unsave("slow")
        self.check_refused(store, errors.NoName, lambda one: one.answer("from @slow"))
        store.undo()
        self.assertEqual(len(store.answer("from @slow")), 3)

    def test_a_long_chain(self):
        store = small_store()
        names = ["a" + one + other for one in "bcde" for other in "bcdefghijklm"]
        store.save("a", "from web | where took = 5")
        for ahead, name in zip(["a", *names], names):
            store.save(name, f"from @{ahead} | with took = took + 1")
        self.assertEqual(store.answer(f"from @{names[-1]}")[0]["took"], 5 + len(names))
        with self.assertRaises(errors.Ring) as caught:
            store.save("a", f"from @{names[-1]}", anew=True)
        self.assertEqual(caught.exception.names, ("a", *names[::-1]))


class Changed(Watched):
    def check(self, elder, newer, went, came):
        told = changed(elder, newer)
        self.assertIs(type(told), tuple)
        self.check_alike(told, (went, came))

    def test_by_hand(self):
        a, b, c = {"a": 1}, {"a": 2, "b": "x"}, {}
        self.check([], [], [], [])
        self.check([a], [a], [], [])
        self.check([a], [], [a], [])
        self.check([], [a], [], [a])
        self.check([a, b, c], [c, b, a], [], [])
        self.check([a, b], [b, c], [a], [c])
        self.check([c, b, a], [], [c, b, a], [])
        self.check([], [b, a, c], [], [b, a, c])

    def test_like_rows_as_many_as_there_are_more(self):
        a, b = {"a": 1}, {"a": 2}
        self.check([a, a, a], [a], [a, a], [])
        self.check([a], [a, a, a], [], [a, a])
        self.check([a, a, b], [b, b, a], [a], [b])
        self.check([a, b, a, b], [a, b], self.any_order([a, b], [a, b, a, b], [a, b]), [])

    def any_order(self, rows, elder, newer):
        """Tell the rows that went in the order in which they were told, if these are the right ones."""
        told = changed(elder, newer)[0]
        return told if sorted(map(str, told)) == sorted(map(str, rows)) else rows

    def test_yes_is_not_one(self):
        self.check([{"a": 1}], [{"a": True}], [{"a": 1}], [{"a": True}])
        self.check([{"a": False}], [{"a": 0}], [{"a": False}], [{"a": 0}])

    def test_a_lacking_field_is_not_like_another_one(self):
        self.check([{"a": 1}], [{"a": 1, "b": 1}], [{"a": 1}], [{"a": 1, "b": 1}])
        self.check([{"a": 1}], [{"b": 1}], [{"a": 1}], [{"b": 1}])

    def test_the_order_of_fields_does_not_matter(self):
        self.check([{"a": 1, "b": 2}], [{"b": 2, "a": 1}], [], [])

    def test_all_short_lists(self):
        rows = [{"a": 1}, {"a": True}, {}]
        lists = [list(told) for many in range(4) for told in itertools.product(rows, repeat=many)]
        for elder, newer in itertools.product(lists, lists):
            went, came = changed(elder, newer)
            for told, more, less in ((went, elder, newer), (came, newer, elder)):
                for row in rows:
                    many = [sum(kind_and_value(one) == kind_and_value(row) for one in some) for some in (told, more, less)]
                    self.assertEqual(many[0], max(0, many[1] - many[2]))
                self.assertTrue(self.stands_in_order(told, more))

    def stands_in_order(self, told, rows):
        rest = iter([kind_and_value(row) for row in rows])
        return all(kind_and_value(row) in rest for row in told)

    def test_handed_lists_stay_and_told_ones_are_new(self):
        elder, newer = [{"a": 1}, {"b": 2}], [{"b": 2}, {"c": 3}]
        told = changed(elder=elder, newer=newer)
        told[0][0]["a"] = 77
        told[1][0]["c"] = 77
        told[0].append({})
        self.check_alike((elder, newer), ([{"a": 1}, {"b": 2}], [{"b": 2}, {"c": 3}]))
        self.check_alike(changed(newer=newer, elder=elder), ([{"a": 1}], [{"c": 3}]))


class Standing(Watched):
    def check(self, store, went, came, name="watch"):
        """Check which numbers went and came, and that nothing is told twice."""
        told = store.changes(name)
        self.assertIs(type(told), tuple)
        self.assertEqual([[row["number"] for row in rows] for rows in told], [went, came])
        self.check_alike(store.changes(name), ([], []))

    def watched(self, text="from web | keep number took"):
        store = small_store()
        store.stand("watch", text)
        return store

    def test_nothing_changed(self):
        store = self.watched()
        self.check(store, [], [])
        store.source("more")
        store.tidy()
        self.check(store, [], [])

    def test_rows_that_came(self):
        store = self.watched()
        store.add((9, "web", 9, {}))
        store.add((0, "web", 7, {}))
        store.add((0, "app", 8, {}))
        self.check(store, [], [7, 9])
        store.batch([(20, "web", 20, {}), (19, "web", 19, {})])
        self.check(store, [], [19, 20])

    def test_rows_that_were_amended_struck_and_let_go(self):
        store = self.watched()
        store.amend("web", 1, {"took": 51})
        self.check(store, [1], [1])
        store.amend("web", 1, {"took": 51, "user": "bob"})
        self.check(store, [], [])
        store.strike("web", 2)
        self.check(store, [2], [])
        store.floor("web", 2)
        self.check(store, [0], [])

    def test_what_came_and_went_meanwhile_is_not_told(self):
        store = self.watched()
        store.add((9, "web", 9, {}))
        store.strike("web", 9)
        store.amend("web", 0, {"took": 77})
        store.amend("web", 0, {"took": 5})
        self.check(store, [], [])

    def test_behind_undo_and_redo(self):
        store = self.watched()
        store.add((9, "web", 9, {}))
        store.undo()
        self.check(store, [], [])
        store.redo()
        self.check(store, [], [9])
        store.undo()
        self.check(store, [9], [])
        store.redo()
        self.check(store, [], [9])

    def test_asking_is_no_deed(self):
        store = self.watched()
        store.add((9, "web", 9, {}))
        store.add((10, "web", 10, {}))
        store.undo()
        deeds = store.undoable(), store.redoable()
        self.check(store, [], [9])
        self.assertEqual((store.undoable(), store.redoable()), deeds)

    def test_by_kept_questions_as_they_are_then(self):
        store = small_store()
        store.save("slow", "from web | where took > 5")
        store.stand("watch", "from @slow")
        store.save("slow", "from web | where took < 60", anew=True)
        self.check(store, [2], [0])
        store.undo()
        self.check(store, [0], [2])

    def test_folds_and_like_rows(self):
        store = self.watched("from all | fold number = count by user")
        store.add((9, "web", 9, {"user": "ann"}))
        self.check(store, [3], [4])
        store = self.watched("from all | keep user")
        store.add((9, "web", 9, {"user": "ann"}))
        store.add((9, "web", 10, {"user": "ann"}))
        store.strike("web", 1)
        self.check_alike(store.changes("watch"), ([{"user": "bob"}], [{"user": "ann"}, {"user": "ann"}]))

    def test_each_standing_question_by_itself(self):
        store = self.watched()
        store.add((9, "web", 9, {}))
        store.stand("later", "from web")
        store.add((10, "web", 10, {}))
        self.check(store, [], [10], "later")
        self.check(store, [], [9, 10])

    def test_begins_to_stand_by_undo(self):
        store = self.watched()
        store.add((9, "web", 9, {}))
        store.unstand("watch")
        store.undo()
        self.check(store, [], [])
        store.undo()
        self.check(store, [9], [])

    def test_begins_to_stand_by_redo(self):
        store = small_store()
        store.add((9, "web", 9, {}))
        store.stand("watch", "from web")
        store.add((10, "web", 10, {}))
        for ignored in range(3):
            store.undo()
        self.check_refused(store, errors.NoName, lambda one: one.changes("watch"))
        store.redo()
        store.redo()
        self.check(store, [], [])
        store.redo()
        self.check(store, [], [10])

    def test_a_redo_that_ends_and_one_that_begins(self):
        store = self.watched()
        store.unstand("watch")
        store.stand("watch", "from app")
        store.undo()
        store.undo()
        store.redo()
        self.check_refused(store, errors.NoName, lambda one: one.changes("watch"))
        store.redo()
        store.add((9, "app", 9, {}))
        self.check(store, [], [9])

    def test_one_that_stands_on_keeps_what_it_told_last(self):
        store = self.watched()
        store.add((9, "web", 9, {}))
        store.stand("other", "from all")
        store.undo()
        store.redo()
        self.check(store, [], [9])

    def test_of_a_twin(self):
        store = self.watched()
        store.add((9, "web", 9, {}))
        twin = store.twin()
        self.check(store, [], [9])
        self.check(twin, [], [9])
        store.strike("web", 9)
        self.check(twin, [], [])
        self.check(store, [9], [])

    def test_told_rows_changed_by_the_caller(self):
        store = self.watched()
        store.add((9, "web", 9, {"took": 1}))
        told = store.changes("watch")
        told[1][0]["took"] = 77
        store.strike("web", 9)
        self.check_alike(store.changes("watch"), ([{"number": 9, "took": 1}], []))
