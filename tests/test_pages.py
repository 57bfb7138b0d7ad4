"""Stores written as lines, and read from them."""

from logdelve import errors
from logdelve.pages import read_store, store_lines
from logdelve.store import Store
from tests.helper import Watched, all_told, fault_at, filled_store

LINES = [
    "size 3",
    "source app",
    "source db_two",
    "source old",
    "source web",
    "field done flag",
    "field took number",
    "field user word",
    "floor old 3",
    "row 0 web 0 took=0 user='bob'",
    "row 5 old 1 took=1",
    "row 10 web 1 took=1 user='ann'",
    "row 20 web 2 took=4 user='bob'",
    "row 25 app 0 done=no",
    "row 25 app 1 done=yes",
    "row 25 app 2 done=no",
    "row 40 web 4 took=16 user='bob'",
    "row 50 web 5 done=yes took=77 user='cid'",
    "row 60 web 6 took=36 user='bob'",
    "struck web 3",
    "index source",
    "index took",
    "save slow from all | where took > 10",
    "save by_user from @slow | fold many = count by user",
    "hold keeper web",
    "hold later web",
    "stand every_row from all | keep time source number took",
    "stand watch from @by_user",
]


class Written(Watched):
    def test_every_kind_of_line(self):
        self.check_alike(store_lines(filled_store()), LINES)

    def test_an_empty_store(self):
        self.check_alike(store_lines(Store()), ["size 8"])
        self.check_alike(store_lines(Store(size=50)), ["size 50"])

    def test_numbers_rise_by_size(self):
        store = Store()
        for source in ("web", "app"):
            store.source(source)
        for source, number in (("web", 10), ("web", 9), ("app", 100), ("app", 20)):
            store.add((number, source, number, {}))
            store.strike(source, number)
            store.add((number, source, number + 1000, {}))
        store.add((-3, "web", 5, {}))
        store.floor("app", 10)
        store.floor("web", -5)
        self.check_alike(store_lines(store), [
            "size 8", "source app", "source web", "floor app 10", "floor web -5", "row -3 web 5", "row 9 web 1009", "row 10 web 1010",
            "row 20 app 1020", "row 100 app 1100", "struck app 20", "struck app 100", "struck web 9", "struck web 10",
        ])

    def test_kept_questions_by_how_many_others_they_lean_on(self):
        store = Store()
        for name, text in (("z", "from all"), ("y", "from @z"), ("a", "from @y"), ("b", "from @z"), ("m", "from all"), ("c", "from @a")):
            store.save(name, text)
        lines = [
            "size 8", "save m from all", "save z from all", "save b from @z", "save y from @z", "save a from @y", "save c from @a"]
        self.check_alike(store_lines(store), lines)
        self.check_alike(store_lines(read_store(lines)), lines)
        store.save("a", "from @m", anew=True)
        self.check_alike(store_lines(store), [
            "size 8", "save m from all", "save z from all", "save a from @m", "save b from @z", "save y from @z", "save c from @a"])

    def test_questions_as_question_text_tells_them(self):
        store = Store()
        store.source("web")
        store.stand("s", "from  web|where (time>5)")
        store.save("k", "from web|first 5")
        self.assertEqual(store_lines(store)[2:], ["save k from web | first 5", "stand s from web | where time > 5"])

    def test_told_lines_are_new(self):
        store = filled_store()
        store_lines(store).clear()
        self.check_alike(store_lines(store), LINES)
        self.check_alike(store_lines(store=store), LINES)

    def test_nothing_changes(self):
        store = filled_store()
        before = all_told(store)
        store_lines(store)
        self.assertEqual(all_told(store), before)


class Read(Watched):
    def test_the_same_lines_again(self):
        for lines in (LINES, ["size 8"], ["size 1"], ["size 50"], LINES[:9], LINES[:1] + LINES[1:5]):
            self.check_alike(store_lines(read_store(lines)), lines)
            self.check_alike(store_lines(read_store(lines=list(lines))), lines)

    def test_nothing_to_take_back(self):
        store = read_store(LINES)
        self.assertIs(type(store), Store)
        self.check_alike((store.undoable(), store.redoable()), ([], []))
        self.check_refused(store, errors.NothingLeft, lambda one: one.undo())
        self.check_refused(store, errors.NothingLeft, lambda one: one.redo())

    def test_it_tells_what_the_first_one_tells(self):
        first, store = filled_store(), read_store(LINES)
        for name in ("rows", "sources", "kinds", "floors", "holds", "struck", "indexes", "saves", "stands"):
            self.check_alike(getattr(store, name)(), getattr(first, name)())
        self.assertEqual(len(store), len(first))
        for text in ("from all", "from @by_user", "from web | join app by user within 99"):
            self.check_alike(store.answer(text), first.answer(text))
        self.check_alike(store.looked_up("took", 1), [("old", 1), ("web", 1)])
        self.check_alike(store.changes("watch"), ([], []))

    def test_it_does_as_the_first_one_does(self):
        first, store = filled_store(), read_store(LINES)
        for deed in (
            lambda one: one.add((30, "web", 3, {})), lambda one: one.add((1, "old", 9, {})), lambda one: one.add((3, "old", 9, {})),
            lambda one: one.add((10, "web", 1, {})), lambda one: one.floor("web", 5), lambda one: one.floor("old", 2),
            lambda one: one.floor("app", 26), lambda one: one.unsave("slow"), lambda one: one.amend("web", 1, {"took": 99}),
            lambda one: one.changes("watch"), lambda one: one.strike("web", 5), lambda one: one.changes("watch"), lambda one: one.tidy(),
            lambda one: one.undo(), lambda one: one.undo(), lambda one: one.redo(), lambda one: one.release("keeper"),
            lambda one: one.source("web"), lambda one: one.stand("watch", "from all"), lambda one: one.looked_up("took", 99),
            lambda one: one.add_index("took"), lambda one: one.drop_index("took"), lambda one: one.field("took"),
        ):
            self.check_alike(self.outcome(store, deed), self.outcome(first, deed))
            self.check_alike(store_lines(store), store_lines(first))

    def outcome(self, store, deed):
        try:
            return deed(store)
        except (errors.LogError, errors.NotThere) as caught:
            return [type(caught).__name__, {name: value for name, value in vars(caught).items()}]

    def test_handed_lines_stay(self):
        lines = list(LINES)
        read_store(lines)
        self.assertEqual(lines, LINES)
        lines = [*LINES[:5], "wrong"]
        self.assertEqual(fault_at(read_store, lines), 5)
        self.assertEqual(lines, [*LINES[:5], "wrong"])


class Wrong(Watched):
    def check(self, lines, at):
        with self.subTest(lines):
            self.assertEqual(fault_at(read_store, lines), at)

    def check_instead(self, line, *others):
        """Check that each other line in the place of one that is right is wrong there."""
        at = LINES.index(line)
        for other in others:
            self.check([*LINES[:at], other, *LINES[at + 1:]], at)

    def check_behind(self, line, *others):
        """Check that each other line right behind one that is right is wrong there."""
        at = LINES.index(line) + 1
        for other in others:
            self.check([*LINES[:at], other, *LINES[at:]], at)

    def test_no_lines(self):
        self.check([], 0)

    def test_sizes(self):
        self.check_instead(
            "size 3", "", "size", "size ", "size 0", "size 51", "size -3", "size 03", "size x", "size 3 ", " size 3", "size  3",
            "Size 3", "sizes 3", "3", "source web", "size 3 3", "size 'x'", "size yes")
        self.check(LINES[1:], 0)
        self.check_behind("size 3", "size 3", "size 4", "size 8")
        self.check_behind("stand watch from @by_user", "size 3")

    def test_what_is_no_line(self):
        for line in LINES:
            self.check_behind(line, "", " ", "x", "sources web", "rows", "Source web", " source zebra", "undo", "store")

    def test_sources(self):
        self.check_instead("source web", "source", "source ", "source Web", "source by", "source web ", "source  web", "source thirteen_sign")
        self.check_behind("source web", "source web", "source app", "source vvv", "source zebra ", "source web_a b")

    def test_fields(self):
        self.check_instead(
            "field took number", "field took", "field took ", "field took numbers", "field took number ", "field  took number",
            "field took  number", "field By number", "field sum number", "field took Number", "field number took")
        self.check_behind(
            "field user word", "field user word", "field user flag", "field a word", "field time number", "field source word",
            "field number number", "source zebra")

    def test_floors(self):
        self.check_instead(
            "floor old 3", "floor old", "floor old ", "floor old x", "floor old 03", "floor old -0", "floor old 3 ", "floor old  3",
            "floor none 3", "floor 3 old", "floor old '3'", "floor old 3 3")
        self.check_behind("floor old 3", "floor old 3", "floor old 4", "floor app 3", "field zz word", "source zebra")

    def test_rows(self):
        self.check_instead(
            "row 25 app 1 done=yes", "row", "row ", "row 25", "row 25 app", "row 25 app x", "row 25 app -1 done=yes", "row 25 app 01",
            "row 25 app 1 done=true", "row 25 app 1  done=yes", "row  25 app 1 done=yes", "row 25 app 1 done=yes ", "row 25 app 1 none=yes",
            "row 25 app 1 done=1", "row 25 app 1 took=yes", "row 25 none 1", "row 25 app 1 time=5", "row 25 app 1 user='bob' took=1",
            "row 25 app 1 done=yes done=yes", "row x app 1")
        self.check_behind(
            "row 60 web 6 took=36 user='bob'", "row 60 web 6 took=36 user='bob'", "row 60 web 5", "row 60 app 7", "row 59 web 7",
            "row 61 web 6", "row 61 web 6 took=36 user='bob'", "row 2 old 2", "floor web 3", "field zz word")

    def test_rows_below_a_floor_are_past(self):
        self.check([*LINES[:8], "floor old 6", *LINES[9:]], 10)
        self.check([*LINES[:8], "floor old 5", *LINES[9:]], None)
        self.check(["size 8", "source web", "floor web 0", "row -1 web 0"], 3)

    def test_struck(self):
        self.check_instead(
            "struck web 3", "struck", "struck web", "struck web ", "struck web x", "struck web -1", "struck web 03", "struck web 3 ",
            "struck  web 3", "struck web  3", "struck none 3", "struck By 3", "struck 3 web", "struck web 4", "struck app 0", "struck old 1")
        self.check_behind("struck web 3", "struck web 3", "struck app 9", "struck web 1", "struck old 9", "row 70 web 70")
        at = LINES.index("struck web 3") + 1
        for line in ("struck web 9", "struck web 10", "struck web 7"):
            self.check([*LINES[:at], line, *LINES[at:]], None)
        self.check([*LINES[:at], "struck web 10", "struck web 9", *LINES[at:]], at + 1)

    def test_indexes(self):
        self.check_instead("index took", "index", "index ", "index took ", "index  took", "index none", "index web", "index took user", "index Took")
        self.check_behind("index took", "index took", "index source", "index done", "struck web 9", "index took_more")

    def test_saves(self):
        self.check_instead(
            "save slow from all | where took > 10", "save", "save ", "save slow", "save slow ", "save slow from", "save slow  from all",
            "save slow from all ", "save slow from all|first 1", "save slow from all | where (took > 10)", "save slow from all | where took>10",
            "save by from all", "save slow from none", "save slow from all | keep none", "save slow from @none", "save slow from @slow",
            "save thirteen_sign from all", "save from all")
        self.check_behind(
            "save slow from all | where took > 10", "save slow from all | where took > 10", "save slow from all", "save aa from all",
            "save slow from web", "index user")
        self.check_behind(
            "save by_user from @slow | fold many = count by user", "save aa from @slow", "save zz from all", "save by_user from @slow",
            "save by_user from all", "save zz from @zz")
        at = LINES.index("save by_user from @slow | fold many = count by user") + 1
        for line in ("save aa from @by_user", "save zz from @slow", "save zz from @by_user"):
            self.check([*LINES[:at], line, *LINES[at:]], None)
        self.check([*LINES[:at], "save aa from @by_user", "save zz from @slow", *LINES[at:]], at + 1)

    def test_holds(self):
        self.check_instead(
            "hold keeper web", "hold", "hold ", "hold keeper", "hold keeper ", "hold keeper none", "hold  keeper web", "hold keeper  web",
            "hold keeper web ", "hold by web", "hold keeper web web")
        self.check_behind("hold later web", "hold later web", "hold keeper app", "hold aa app", "save zz from @slow")

    def test_stands(self):
        self.check_instead(
            "stand watch from @by_user", "stand", "stand watch", "stand watch ", "stand watch from", "stand watch from  @by_user",
            "stand watch from @none", "stand watch from none", "stand watch from @by_user | keep took", "stand by from all",
            "stand  watch from @by_user", "stand watch from @watch", "stand watch from @by_user ")
        self.check_behind("stand watch from @by_user", "stand watch from @by_user", "stand aa from all", "stand watch from all", "hold zz app")

    def test_the_first_wrong_line_is_told(self):
        self.check([*LINES[:4], "x", *LINES[5:9], "y"], 4)
        self.check(["size 99", "x"], 0)
        self.check([*LINES, "x", "y"], len(LINES))

    def test_lines_that_lack_what_others_need(self):
        for line, other in (
            ("source web", "row 0 web 0 took=0 user='bob'"), ("source old", "floor old 3"), ("field done flag", "row 25 app 0 done=no"),
            ("field took number", "row 0 web 0 took=0 user='bob'"), ("save slow from all | where took > 10", LINES[23]),
            (LINES[23], LINES[27]),
        ):
            lines = [one for one in LINES if one != line]
            self.check(lines, lines.index(other))

    def test_each_kind_in_its_place(self):
        for at in range(1, len(LINES) - 1):
            lines = [*LINES[:at], LINES[at + 1], LINES[at], *LINES[at + 2:]]
            told = fault_at(read_store, lines)
            self.assertIn(told, (at, at + 1), lines[at:at + 2])

    def test_behind_a_wrong_line_the_next_store_is_read(self):
        self.check([*LINES, "x"], len(LINES))
        self.check(LINES, None)
