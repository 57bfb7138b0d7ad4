"""The deeds of the store: each done, and refused in each way that it has."""

from logdelve import errors
from logdelve.store import PIECE, Store
from tests.helper import Watched, all_told, filled_store


class Made(Watched):
    def test_an_empty_store(self):
        store = Store()
        self.assertEqual(len(store), 0)
        for told in (store.rows(), store.sources(), store.holds(), store.struck(), store.indexes(), store.saves(),
                     store.stands(), store.undoable(), store.redoable(), store.pieces()):
            self.check_alike(told, [])
        self.check_alike(store.kinds(), {})
        self.check_alike(store.floors(), {})

    def test_sizes(self):
        self.check_alike(PIECE, 8)
        for size in (1, 2, 8, 49, 50):
            Store(size=size)
        for size in (0, -1, 51, 1000, 10 ** 29):
            with self.subTest(size), self.assertRaises(errors.BadSize):
                Store(size=size)

    def test_the_size_is_handed_in_by_name(self):
        with self.assertRaises(TypeError):
            Store(5)


class Sources(Watched):
    def test_done(self):
        store = Store()
        for name in ("web", "a", "db_two", "twelve_signs", "time", "number", "from"):
            self.assertIsNone(store.source(name))
        self.check_alike(store.sources(), ["a", "db_two", "from", "number", "time", "twelve_signs", "web"])
        self.check_alike(store.undoable(), ["source"] * 7)

    def test_refused(self):
        store = filled_store()
        for name in ("", "Web", "_a", "a1", "by", "all", "within", "thirteen_sign", "a b", "5"):
            self.check_refused(store, errors.BadName, lambda one: one.source(name))
        self.check_refused(store, errors.Taken, lambda one: one.source("web"), {"name": "web"})

    def test_fields_and_sources_do_not_take_each_others_names(self):
        store = filled_store()
        store.source("took")
        store.field("web")
        self.assertIn("took", store.sources())
        self.assertIn("web", store.kinds())


class Fields(Watched):
    def test_done(self):
        store = Store()
        self.assertIsNone(store.field("took"))
        self.assertIsNone(store.field("many", sort="number"))
        self.assertIsNone(store.field("user", sort="word"))
        self.assertIsNone(store.field("done", sort="flag"))
        self.check_alike(store.kinds(), {"took": "number", "many": "number", "user": "word", "done": "flag"})
        self.check_alike(store.undoable(), ["field"] * 4)

    def test_refused(self):
        store = filled_store()
        for name in ("", "Took", "a1", "sum", "thirteen_sign"):
            self.check_refused(store, errors.BadName, lambda one: one.field(name))
        for name in ("took", "time", "source", "number"):
            self.check_refused(store, errors.Taken, lambda one: one.field(name), {"name": name})
            self.check_refused(store, errors.Taken, lambda one: one.field(name, sort="flag"), {"name": name})
        for sort in ("", "numbers", "Number", "text", "took"):
            self.check_refused(store, errors.BadName, lambda one: one.field("fresh", sort=sort))

    def test_two_refusals_at_once(self):
        store = filled_store()
        self.check_refused(store, errors.BadName, lambda one: one.field("by", sort="none"))
        self.check_refused(store, errors.Taken, lambda one: one.field("took", sort="none"), {"name": "took"})
        self.check_refused(store, errors.Taken, lambda one: one.field("time", sort="none"), {"name": "time"})


class Adding(Watched):
    def test_new(self):
        store = filled_store()
        many = len(store)
        self.check_alike(store.add((-7, "app", 9, {"took": -1, "user": "x1", "done": False})), "new")
        self.check_alike(store.rows()[0], (-7, "app", 9, {"took": -1, "user": "x1", "done": False}))
        self.assertEqual(len(store), many + 1)
        self.assertEqual(store.undoable()[-1], "add")
        self.assertEqual(store.redoable(), [])

    def test_numbers_belong_to_their_sources(self):
        store = filled_store()
        self.assertEqual(store.add((10, "app", 5, {})), "new")
        self.assertEqual(store.add((10, "db_two", 5, {})), "new")

    def test_again(self):
        store = filled_store()
        before = all_told(store)
        for row in store.rows():
            self.check_alike(store.add(row), "again")
        self.assertEqual(all_told(store), before)

    def test_past(self):
        store = filled_store()
        before = all_told(store)
        for time in (2, 1, 0, -100):
            self.check_alike(store.add((time, "old", 5, {})), "past")
        self.assertEqual(all_told(store), before)
        self.assertEqual(store.add((3, "old", 5, {})), "new")

    def test_floors_belong_to_their_sources(self):
        self.assertEqual(filled_store().add((-100, "db_two", 5, {})), "new")

    def test_a_floor_at_nought_and_below(self):
        store = Store()
        store.source("web")
        store.floor("web", 0)
        self.assertEqual(store.add((-1, "web", 0, {})), "past")
        self.assertEqual(store.add((0, "web", 0, {})), "new")
        store.source("app")
        store.floor("app", -5)
        self.assertEqual(store.add((-6, "app", 0, {})), "past")
        self.assertEqual(store.add((-5, "app", 0, {})), "new")

    def test_a_number_that_was_let_go_by_a_floor_comes_again(self):
        store = filled_store()
        self.assertEqual(store.add((1, "old", 0, {})), "past")
        self.assertEqual(store.add((3, "old", 0, {"user": "new"})), "new")
        self.assertIn((3, "old", 0, {"user": "new"}), store.rows())

    def test_no_source(self):
        store = filled_store()
        for source in ("none", "", "took", "zebra", "we"):
            self.check_refused(store, errors.NoSource, lambda one: one.add((1, source, 0, {})))

    def test_bad_number(self):
        store = filled_store()
        for number in (-1, -2, -10 ** 29):
            self.check_refused(store, errors.BadNumber, lambda one: one.add((1, "web", number, {})))

    def test_bad_field(self):
        store = filled_store()
        for fields, name in (
            ({"none": 1}, "none"), ({"took": "ann"}, "took"), ({"took": True}, "took"), ({"took": False}, "took"),
            ({"user": 1}, "user"), ({"user": True}, "user"), ({"done": 1}, "done"), ({"done": 0}, "done"), ({"done": "yes"}, "done"),
            ({"time": 1}, "time"), ({"source": "web"}, "source"), ({"number": 1}, "number"), ({"user": "not a word"}, "user"),
            ({"user": ""}, "user"), ({"took": 1, "zz": 1, "nn": 1, "user": "ann"}, "nn"), ({"user": 1, "took": "x", "done": 1}, "done"),
        ):
            self.check_refused(store, errors.BadField, lambda one: one.add((100, "web", 100, fields)), {"name": name})

    def test_struck(self):
        store = filled_store()
        for row in ((30, "web", 3, {"took": 9, "user": "ann"}), (31, "web", 3, {}), (-5, "web", 3, {})):
            self.check_refused(store, errors.Struck, lambda one: one.add(row))
        self.assertEqual(store.add((30, "app", 3, {})), "new")

    def test_unlike(self):
        store = filled_store()
        kept = (10, "web", 1, {"took": 1, "user": "ann"})
        for row in ((11, "web", 1, kept[3]), (10, "web", 1, {"took": 2, "user": "ann"}), (10, "web", 1, {"took": 1}),
                    (10, "web", 1, {**kept[3], "done": True}), (10, "web", 1, {})):
            self.check_refused(store, errors.Unlike, lambda one: one.add(row), {"row": kept})

    def test_unlike_an_amended_row(self):
        store = filled_store()
        kept = (50, "web", 5, {"took": 77, "user": "cid", "done": True})
        self.check_refused(store, errors.Unlike, lambda one: one.add((50, "web", 5, {"took": 25, "user": "ann"})), {"row": kept})
        self.assertEqual(store.add(kept), "again")

    def test_two_refusals_at_once(self):
        store = filled_store()
        self.check_refused(store, errors.NoSource, lambda one: one.add((1, "none", -1, {"none": 1})))
        self.check_refused(store, errors.BadNumber, lambda one: one.add((1, "web", -1, {"none": 1})))
        self.check_refused(store, errors.BadField, lambda one: one.add((1, "old", 1, {"none": 1})), {"name": "none"})
        self.check_refused(store, errors.BadField, lambda one: one.add((30, "web", 3, {"none": 1})), {"name": "none"})
        self.check_refused(store, errors.BadField, lambda one: one.add((10, "web", 1, {"none": 1})), {"name": "none"})

    def test_past_goes_ahead_of_struck_and_unlike(self):
        store = filled_store()
        store.strike("old", 1)
        store.add((4, "old", 2, {}))
        self.assertEqual(store.add((1, "old", 1, {})), "past")
        self.assertEqual(store.add((1, "old", 2, {"took": 5})), "past")
        self.check_refused(store, errors.Struck, lambda one: one.add((3, "old", 1, {})))


class Amending(Watched):
    def test_done(self):
        store = filled_store()
        self.check_alike(store.amend("web", 1, {"done": False}), {"took": 1, "user": "ann"})
        self.assertIn((10, "web", 1, {"done": False}), store.rows())
        self.check_alike(store.amend("web", 1, {}), {"done": False})
        self.check_alike(store.amend("web", 1, {"took": 5}), {})
        self.check_alike(store.amend("web", 1, {"took": 5}), {"took": 5})
        self.assertEqual(store.undoable()[-4:], ["amend"] * 4)

    def test_refused(self):
        store = filled_store()
        for source, number in (("web", 99), ("web", -1), ("none", 0), ("db_two", 1), ("web", 3), ("old", 0)):
            self.check_refused(store, errors.NoRow, lambda one: one.amend(source, number, {}))
            self.check_refused(store, errors.NoRow, lambda one: one.amend(source, number, {"none": 1}))
        for fields, name in (({"none": 1}, "none"), ({"took": True}, "took"), ({"time": 5}, "time"), ({"user": 1, "aa": 1}, "aa")):
            self.check_refused(store, errors.BadField, lambda one: one.amend("web", 1, fields), {"name": name})


class Striking(Watched):
    def test_done(self):
        store = filled_store()
        row = (10, "web", 1, {"took": 1, "user": "ann"})
        self.check_alike(store.strike("web", 1), row)
        self.assertNotIn(row, store.rows())
        self.check_alike(store.struck(), [("web", 1), ("web", 3)])
        self.assertEqual(store.undoable()[-1], "strike")
        self.check_refused(store, errors.Struck, lambda one: one.add(row))

    def test_struck_ones_rise_by_source_then_number(self):
        store = Store()
        for source in ("web", "app"):
            store.source(source)
            for number in (10, 9):
                store.add((number, source, number, {}))
                store.strike(source, number)
        self.check_alike(store.struck(), [("app", 9), ("app", 10), ("web", 9), ("web", 10)])

    def test_for_good_behind_a_floor(self):
        store = filled_store()
        store.release("keeper")
        store.release("later")
        store.floor("web", 1000)
        self.assertEqual(store.add((999, "web", 3, {})), "past")
        self.check_refused(store, errors.Struck, lambda one: one.add((1000, "web", 3, {})))

    def test_refused(self):
        store = filled_store()
        for source, number in (("web", 99), ("web", -1), ("none", 0), ("db_two", 1), ("web", 3), ("old", 0)):
            self.check_refused(store, errors.NoRow, lambda one: one.strike(source, number))


class Holding(Watched):
    def test_done(self):
        store = filled_store()
        self.assertIsNone(store.hold("aa", "app"))
        self.check_alike(store.holds(), [("aa", "app"), ("keeper", "web"), ("later", "web")])
        self.assertIsNone(store.release("keeper"))
        self.check_alike(store.holds(), [("aa", "app"), ("later", "web")])
        self.assertEqual(store.undoable()[-2:], ["hold", "release"])
        store.hold("keeper", "app")
        self.check_alike(store.holds(), [("aa", "app"), ("keeper", "app"), ("later", "web")])

    def test_refused(self):
        store = filled_store()
        for name in ("", "A", "not", "thirteen_sign"):
            self.check_refused(store, errors.BadName, lambda one: one.hold(name, "web"))
            self.check_refused(store, errors.BadName, lambda one: one.hold(name, "none"))
        self.check_refused(store, errors.Taken, lambda one: one.hold("keeper", "app"), {"name": "keeper"})
        self.check_refused(store, errors.Taken, lambda one: one.hold("keeper", "none"), {"name": "keeper"})
        self.check_refused(store, errors.NoSource, lambda one: one.hold("fresh", "none"))
        for name in ("none", "", "web"):
            self.check_refused(store, errors.NoHold, lambda one: one.release(name))


class Floors(Watched):
    def test_done(self):
        store = filled_store()
        self.check_alike(store.floor("app", 25), 0)
        self.check_alike(store.floors(), {"old": 3, "app": 25})
        self.check_alike(store.floor("app", 26), 3)
        self.check_alike(store.floor("app", 26), 0)
        self.check_alike(store.floors(), {"old": 3, "app": 26})
        self.assertEqual(store.undoable()[-3:], ["floor"] * 3)
        self.assertEqual([row for row in store.rows() if row[1] == "app"], [])

    def test_rows_at_the_time_stay_and_those_of_others(self):
        store = filled_store()
        store.release("keeper")
        store.release("later")
        self.check_alike(store.floor("web", 20), 2)
        self.assertEqual([row[0] for row in store.rows()], [5, 20, 25, 25, 25, 40, 50, 60])

    def test_refused(self):
        store = filled_store()
        for source in ("none", "", "took"):
            self.check_refused(store, errors.NoSource, lambda one: one.floor(source, 5))
        self.check_refused(store, errors.Held, lambda one: one.floor("web", 5), {"name": "keeper"})
        for time in (2, 0, -1000):
            self.check_refused(store, errors.BadTime, lambda one: one.floor("old", time))

    def test_held_by_the_first_of_several_and_no_more(self):
        store = filled_store()
        store.hold("aa", "app")
        store.hold("zz", "web")
        self.check_refused(store, errors.Held, lambda one: one.floor("web", 5), {"name": "keeper"})
        self.check_refused(store, errors.Held, lambda one: one.floor("app", 5), {"name": "aa"})
        store.release("keeper")
        self.check_refused(store, errors.Held, lambda one: one.floor("web", 5), {"name": "later"})
        store.release("later")
        store.release("zz")
        self.check_alike(store.floor("web", 5), 1)

    def test_held_goes_ahead_of_a_bad_time(self):
        store = filled_store()
        store.hold("aa", "old")
        self.check_refused(store, errors.Held, lambda one: one.floor("old", 0), {"name": "aa"})

    def test_a_floor_at_nought_stands(self):
        store = Store()
        store.source("web")
        store.floor("web", 0)
        self.check_refused(store, errors.BadTime, lambda one: one.floor("web", -1))
        self.check_alike(store.floor("web", 0), 0)


class Indexes(Watched):
    def test_done(self):
        store = filled_store()
        for field in ("user", "done", "time", "number"):
            self.assertIsNone(store.add_index(field))
        self.check_alike(store.indexes(), ["done", "number", "source", "time", "took", "user"])
        self.assertIsNone(store.drop_index("took"))
        self.check_alike(store.indexes(), ["done", "number", "source", "time", "user"])
        self.assertEqual(store.undoable()[-2:], ["add_index", "drop_index"])

    def test_refused(self):
        store = filled_store()
        self.check_refused(store, errors.Taken, lambda one: one.add_index("took"), {"name": "took"})
        self.check_refused(store, errors.Taken, lambda one: one.add_index("source"), {"name": "source"})
        for field in ("none", "", "web"):
            self.check_refused(store, errors.BadField, lambda one: one.add_index(field), {"name": field})
        for field in ("none", "", "user", "time"):
            self.check_refused(store, errors.NoIndex, lambda one: one.drop_index(field))


class Saves(Watched):
    def test_done(self):
        store = filled_store()
        self.assertIsNone(store.save("fresh", "from  web|where took>5"))
        self.check_alike(store.saves(), [
            ("by_user", "from @slow | fold many = count by user"), ("fresh", "from web | where took > 5"),
            ("slow", "from all | where took > 10"),
        ])
        self.assertIsNone(store.unsave("fresh"))
        self.assertEqual([name for name, text in store.saves()], ["by_user", "slow"])
        self.assertEqual(store.undoable()[-2:], ["save", "unsave"])

    def test_anew(self):
        store = filled_store()
        self.assertIsNone(store.save("slow", "from web | where took > 50", anew=True))
        self.assertIn(("slow", "from web | where took > 50"), store.saves())
        self.assertIsNone(store.save("fresh", "from all", anew=True))
        self.assertIn(("fresh", "from all"), store.saves())
        self.assertEqual(store.undoable()[-2:], ["save", "save"])

    def test_names(self):
        store = filled_store()
        for name in ("", "A", "count", "thirteen_sign"):
            self.check_refused(store, errors.BadName, lambda one: one.save(name, "from all"))
            self.check_refused(store, errors.BadName, lambda one: one.save(name, "from all", anew=True))
        self.check_refused(store, errors.Taken, lambda one: one.save("slow", "from all"), {"name": "slow"})
        self.check_refused(store, errors.Taken, lambda one: one.save("slow", "from all", anew=False), {"name": "slow"})

    def test_texts(self):
        store = filled_store()
        for text, at in (("", 0), ("where yes", 0), ("from all |", 10), ("from all | where took > 03", 24)):
            for name, anew in (("fresh", False), ("fresh", True), ("slow", True)):
                self.check_refused(store, errors.BadText, lambda one: one.save(name, text, anew=anew), {"at": at})

    def test_no_name(self):
        store = filled_store()
        for text in ("from @none", "from @fresh", "from @watch", "from @web | keep nothing", "from @a_name_that_is_long"):
            self.check_refused(store, errors.NoName, lambda one: one.save("fresh", text))
            self.check_refused(store, errors.NoName, lambda one: one.save("fresh", text, anew=True))

    def test_rings(self):
        store = filled_store()
        store.save("third", "from @by_user")
        store.save("aside", "from @by_user")
        for name, leant, names in (
            ("slow", "slow", ("slow",)), ("slow", "by_user", ("slow", "by_user")), ("slow", "third", ("slow", "third", "by_user")),
            ("by_user", "by_user", ("by_user",)), ("by_user", "third", ("by_user", "third")), ("third", "third", ("third",)),
        ):
            for stage in ("", " | keep nothing", " | first 1"):
                text = f"from @{leant}{stage}"
                self.check_refused(store, errors.Ring, lambda one: one.save(name, text, anew=True), {"names": names})
        store.save("third", "from @aside", anew=True)

    def test_bad_stages(self):
        store = filled_store()
        for text, at in (("from none", 0), ("from web web", 0), ("from all | where took", 1), ("from all | first 1 | keep none", 2),
                         ("from @by_user | keep took", 1), ("from web | join none by user within 5", 1)):
            for name, anew in (("fresh", False), ("fresh", True)):
                self.check_refused(store, errors.BadStage, lambda one: one.save(name, text, anew=anew), {"at": at})
        self.check_refused(store, errors.BadStage, lambda one: one.save("slow", "from all | keep none", anew=True), {"at": 1})

    def test_breaks_kept_questions_the_first_by_name(self):
        store = filled_store()
        self.check_refused(store, errors.Breaks, lambda one: one.save("slow", "from all | drop user", anew=True), {"name": "by_user"})
        store.save("also", "from @by_user | where many > 1")
        self.check_refused(store, errors.Breaks, lambda one: one.save("slow", "from all | drop user", anew=True), {"name": "also"})
        text = "from all | fold some = count by user"
        self.check_refused(store, errors.Breaks, lambda one: one.save("by_user", text, anew=True), {"name": "also"})

    def test_breaks_standing_questions(self):
        store = filled_store()
        store.stand("aaa", "from @by_user | where many > 1")
        store.stand("zzz", "from @by_user | where many > 1")
        text = "from all | fold some = count by user"
        self.check_refused(store, errors.Breaks, lambda one: one.save("by_user", text, anew=True), {"name": "aaa"})
        store.unstand("aaa")
        self.check_refused(store, errors.Breaks, lambda one: one.save("by_user", text, anew=True), {"name": "zzz"})
        store.save("zz", "from @by_user | keep many")
        self.check_refused(store, errors.Breaks, lambda one: one.save("by_user", text, anew=True), {"name": "zz"})
        store.unstand("zzz")
        store.unsave("zz")
        store.save("by_user", text, anew=True)

    def test_a_field_of_another_sort_breaks_too(self):
        store = filled_store()
        store.save("fast", "from @slow | where took < 20")
        text = "from all | with took = user"
        self.check_refused(store, errors.Breaks, lambda one: one.save("slow", text, anew=True), {"name": "fast"})

    def test_two_refusals_at_once(self):
        store = filled_store()
        self.check_refused(store, errors.BadName, lambda one: one.save("by", "where"))
        self.check_refused(store, errors.Taken, lambda one: one.save("slow", "where"), {"name": "slow"})
        self.check_refused(store, errors.BadText, lambda one: one.save("fresh", "from @none |"), {"at": 12})
        self.check_refused(store, errors.NoName, lambda one: one.save("slow", "from @none | keep none", anew=True))
        self.check_refused(store, errors.Ring, lambda one: one.save("slow", "from @by_user | keep none", anew=True))
        self.check_refused(store, errors.BadStage, lambda one: one.save("slow", "from all | drop user | keep none", anew=True), {"at": 2})

    def test_unsave_refused(self):
        store = filled_store()
        for name in ("none", "", "watch"):
            self.check_refused(store, errors.NoName, lambda one: one.unsave(name))
        self.check_refused(store, errors.InUse, lambda one: one.unsave("slow"), {"name": "by_user"})
        self.check_refused(store, errors.InUse, lambda one: one.unsave("by_user"), {"name": "watch"})
        store.stand("also", "from @by_user")
        self.check_refused(store, errors.InUse, lambda one: one.unsave("by_user"), {"name": "also"})
        store.save("zz", "from @by_user")
        self.check_refused(store, errors.InUse, lambda one: one.unsave("by_user"), {"name": "zz"})

    def test_unsave_of_what_is_leant_on_no_more(self):
        store = filled_store()
        store.unstand("watch")
        store.unsave("by_user")
        store.unsave("slow")
        self.assertEqual(store.saves(), [])

    def test_what_leans_through_another_one_does_not_count(self):
        store = filled_store()
        store.save("aa", "from @by_user")
        self.check_refused(store, errors.InUse, lambda one: one.unsave("slow"), {"name": "by_user"})


class Stands(Watched):
    def test_done(self):
        store = filled_store()
        self.assertIsNone(store.stand("fresh", "from  @slow|first 1"))
        self.assertIn(("fresh", "from @slow | first 1"), store.stands())
        self.assertEqual([name for name, text in store.stands()], ["every_row", "fresh", "watch"])
        self.assertIsNone(store.unstand("fresh"))
        self.assertEqual([name for name, text in store.stands()], ["every_row", "watch"])
        self.assertEqual(store.undoable()[-2:], ["stand", "unstand"])

    def test_kept_and_standing_questions_do_not_take_each_others_names(self):
        store = filled_store()
        store.stand("slow", "from all")
        store.save("watch", "from all")
        self.assertIn(("slow", "from all"), store.stands())
        self.assertIn(("watch", "from all"), store.saves())

    def test_refused(self):
        store = filled_store()
        for name in ("", "A", "count", "thirteen_sign"):
            self.check_refused(store, errors.BadName, lambda one: one.stand(name, "where"))
        self.check_refused(store, errors.Taken, lambda one: one.stand("watch", "where"), {"name": "watch"})
        self.check_refused(store, errors.BadText, lambda one: one.stand("fresh", "from @none |"), {"at": 12})
        self.check_refused(store, errors.NoName, lambda one: one.stand("fresh", "from @none | keep none"))
        self.check_refused(store, errors.NoName, lambda one: one.stand("fresh", "from @watch"))
        self.check_refused(store, errors.BadStage, lambda one: one.stand("fresh", "from all | keep none"), {"at": 1})
        for name in ("none", "", "slow"):
            self.check_refused(store, errors.NoName, lambda one: one.unstand(name))
            self.check_refused(store, errors.NoName, lambda one: one.changes(name))


class Tidy(Watched):
    def test_done(self):
        store = filled_store()
        self.assertIsNone(store.tidy())
        self.assertEqual(store.undoable()[-2:], ["tidy", "tidy"])
        self.assertEqual(store.redoable(), [])
