"""Stages behind one another, held against a plain model of them."""

import itertools
import random
import unittest

from logdelve.answers import answer_of, fields_of, reasons_of
from logdelve.errors import BadStage
from logdelve.questions import question_text, read_question
from tests.helper import KINDS, SOURCES, ask, ask_reasons, kind_and_value, model_answer, read_kept

# Stages of each kind that fit behind most other ones.
STAGES = (
    "where took > 2 or done", "where has user and not took = 3", "with took = time - took", "with user = 'ann'",
    "with time = took", "with done = has user", "keep time user took source", "keep user took", "drop done",
    "drop source number", "drop took", "sort took up", "sort took down", "sort user down", "sort done up", "sort time down", "first 0",
    "first 4", "first 99", "every 1", "every 7", "sessions 0", "sessions 2", "sessions 3 by user", "sessions 1 by user took",
    "join app by user within 3", "join web by took within 0", "join web by user within 9",
    "fold took = sum took, time = least time by user", "fold time = most time, took = unlike user by user",
    "fold time = least took, took = count", "fold time = sum time by took user",
)


def random_row(chance, source, number):
    fields = {}
    if chance.random() < 0.7:
        fields["took"] = chance.randint(-2, 6)
    if chance.random() < 0.7:
        fields["user"] = chance.choice(("ann", "bob", "c3"))
    if chance.random() < 0.6:
        fields["done"] = chance.random() < 0.5
    return (chance.randint(-6, 9), source, number, fields)


def random_rows(chance, many):
    rows = [random_row(chance, source, number) for number in range(many) for source in SOURCES]
    chance.shuffle(rows)
    return rows[:many]


def is_good(text):
    try:
        fields_of(read_question(text), sources=SOURCES, kinds=KINDS, kept={})
    except BadStage:
        return False
    return True


class AgainstTheModel(unittest.TestCase):
    def check(self, text, rows, *, kept=None, since=None, until=None):
        wanted = model_answer(read_question(text), rows, read_kept(kept), since, until)
        told = ask(text, rows, kept=kept, since=since, until=until)
        self.assertEqual(kind_and_value(told), kind_and_value([fields for fields, why in wanted]), (text, rows))
        for at, (fields, why) in enumerate(wanted[:40]):
            self.assertEqual(ask_reasons(text, at, rows, kept=kept, since=since, until=until), sorted(why), (text, rows))

    def test_each_stage_behind_each_other_one(self):
        chance = random.Random(11)
        rows = random_rows(chance, 12)
        kinds = set()
        for one, other in itertools.product(STAGES, STAGES):
            text = f"from all | {one} | {other}"
            if is_good(text):
                kinds.add((one.split()[0], other.split()[0]))
                self.check(text, rows)
        words = {stage.split()[0] for stage in STAGES}
        self.assertEqual(kinds, set(itertools.product(words, words)))

    def test_each_stage_over_no_rows_one_and_several(self):
        chance = random.Random(12)
        for stage in STAGES:
            for many in (0, 1, 2, 5, 20):
                for source in ("all", "web", "app web"):
                    self.check(f"from {source} | {stage}", random_rows(chance, many))

    def test_long_questions(self):
        chance = random.Random(13)
        for many in range(400):
            text = "from " + chance.choice(("all", "web", "web app", "db_two"))
            for stage in range(chance.randint(1, 7)):
                longer = text + " | " + chance.choice(STAGES)
                if is_good(longer):
                    text = longer
            if text.count("join") < 3:
                since = chance.choice((None, None, -2, 3))
                until = chance.choice((None, None, 1, 6))
                self.check(text, random_rows(chance, chance.randint(0, 14)), since=since, until=until)

    def test_kept_questions(self):
        chance = random.Random(14)
        for many in range(150):
            one, other = chance.choice(STAGES), chance.choice(STAGES)
            if is_good(f"from web app | {one} | first 5 | {other}"):
                kept = {"one": f"from web app | {one}", "two": "from @one | first 5"}
                since = chance.choice((None, -2, 3))
                self.check(f"from @two | {other}", random_rows(chance, 12), kept=kept, since=since)

    def test_the_order_in_which_rows_are_told_does_not_matter(self):
        chance = random.Random(15)
        rows = random_rows(chance, 10)
        for stage in STAGES:
            wanted = ask("from all | " + stage, rows)
            for many in range(5):
                chance.shuffle(rows)
                self.assertEqual(ask("from all | " + stage, rows), wanted)

    def test_fields_that_an_answer_has_are_told_with_their_sorts(self):
        chance = random.Random(16)
        rows = random_rows(chance, 12)
        names = {int: "number", str: "word", bool: "flag"}
        for one, other in itertools.product(STAGES, STAGES):
            text = f"from all | {one} | {other}"
            if is_good(text):
                sorts = fields_of(read_question(text), sources=SOURCES, kinds=KINDS, kept={})
                for fields in ask(text, rows):
                    for name, value in fields.items():
                        self.assertEqual(sorts[name], names[type(value)], (text, name))

    def test_questions_that_were_written_and_read_are_answered_alike(self):
        chance = random.Random(17)
        rows = random_rows(chance, 12)
        for stage in STAGES:
            question = read_question("from all | " + stage)
            again = read_question(question_text(question))
            self.assertEqual(
                answer_of(question, rows, sources=SOURCES, kinds=KINDS, kept={}),
                answer_of(again, rows, sources=SOURCES, kinds=KINDS, kept={}),
            )

    def test_all_reasons_are_stored_rows(self):
        chance = random.Random(18)
        rows = random_rows(chance, 12)
        stored = {(row[1], row[2]) for row in rows}
        text = "from all | join web by user within 9 | fold n = count by that_user"
        question = read_question(text)
        for at in range(len(ask(text, rows))):
            told = reasons_of(question, at, rows, sources=SOURCES, kinds=KINDS, kept={})
            self.assertTrue(set(told) <= stored)
            self.assertEqual(told, sorted(set(told)))
