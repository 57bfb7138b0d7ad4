"""Rows kept in pieces, their summaries, and pieces led together."""

import itertools
import random
import unittest

from logdelve.pieces import extents_of, exchanged_row, led_together, stored_rows, with_row, without_row
from tests.helper import kind_and_value

SIZES = (1, 2, 8, 50)


def row(time, number=0, source="web", **fields):
    return (time, source, number, fields)


def built(rows, size):
    pieces = []
    for one in rows:
        pieces = with_row(pieces, one, size)
    return pieces


def many_in(pieces):
    return [len(piece.stored) for piece in pieces]


class Pieces(unittest.TestCase):
    def check(self, pieces, rows, size):
        """Check that pieces hold just these rows, as they have to, and tell what they hold."""
        self.assertIs(type(pieces), list)
        self.assertEqual(stored_rows(pieces), sorted(rows, key=lambda one: one[:3]))
        for piece in pieces:
            self.assertTrue(1 <= len(piece.stored) <= size, many_in(pieces))
            self.assertEqual(kind_and_value(piece.extents), kind_and_value(extents_of(piece.stored)))

    def check_led_together(self, pieces, rows, size):
        led = led_together(pieces, size)
        self.check(led, rows, size)
        for one, other in itertools.pairwise(many_in(led)):
            self.assertGreater(one + other, size)

    def orders(self, many):
        """Tell rows that come in order, turned about, from the midst, by turns and amid others."""
        rows = [row(time // 3, time, "web" if time % 2 else "app") for time in range(many)]
        chance = random.Random(many)
        mixed = [chance.sample(rows, many) for ignored in range(3)]
        return [rows, rows[::-1], rows[many // 2:] + rows[:many // 2], rows[::2] + rows[1::2], *mixed]


class Parted(Pieces):
    def test_no_rows(self):
        self.assertEqual(stored_rows([]), [])
        self.assertEqual(led_together([], 8), [])

    def test_one_row(self):
        for size in SIZES:
            pieces = with_row([], row(5), size)
            self.check(pieces, [row(5)], size)
            self.assertEqual(without_row(pieces, row(5)), [])

    def test_rows_that_come_in_any_order(self):
        for size in SIZES:
            for rows in self.orders(60):
                pieces = []
                for many, one in enumerate(rows, start=1):
                    pieces = with_row(pieces, one, size)
                    self.check(pieces, rows[:many], size)
                self.check_led_together(pieces, rows, size)

    def test_all_orders_of_a_few_rows(self):
        rows = [row(1), row(2), row(2, 1), row(2, 0, "app"), row(3)]
        for size in (1, 2, 3):
            for order in itertools.permutations(rows):
                self.check(built(order, size), rows, size)

    def test_numbers_are_told_apart_by_size_and_sources_by_their_signs(self):
        rows = [row(10), row(9), row(-10), row(9, 10), row(9, 9), row(9, 0, "we"), row(9, 0, "w_b")]
        for size in SIZES:
            self.check(built(rows, size), rows, size)

    def test_rows_that_come_in_order_fill_their_pieces(self):
        for size in SIZES:
            pieces = built([row(time) for time in range(101)], size)
            self.assertEqual(set(many_in(pieces[:-1])), {size})

    def test_rows_that_go_to_the_last_one(self):
        for size in SIZES:
            for rows, going in zip(self.orders(30), self.orders(30)[::-1]):
                pieces = built(rows, size)
                for many, one in enumerate(going, start=1):
                    pieces = without_row(pieces, one)
                    self.check(pieces, going[many:], size)
                    self.check_led_together(pieces, going[many:], size)
                self.assertEqual(pieces, [])

    def test_a_piece_goes_with_its_last_row(self):
        pieces = built([row(time) for time in range(6)], 2)
        self.assertEqual(many_in(pieces), [2, 2, 2])
        pieces = without_row(pieces, row(2))
        self.assertEqual(many_in(pieces), [2, 1, 2])
        pieces = without_row(pieces, row(3))
        self.assertEqual(many_in(pieces), [2, 2])

    def test_exchanged_rows_stand_where_the_elder_ones_stood(self):
        rows = [row(time, took=time) for time in range(20)]
        for size in SIZES:
            pieces = built(rows, size)
            parted = many_in(pieces)
            for at in range(20):
                pieces = exchanged_row(pieces, row(at, user="ann"))
                self.assertEqual(many_in(pieces), parted)
                self.check(pieces, [*[row(time, user="ann") for time in range(at + 1)], *rows[at + 1:]], size)

    def test_elder_pieces_stay_as_they_were(self):
        rows = [row(time) for time in range(10)]
        pieces = built(rows, 4)
        elder = list(pieces)
        for newer in (with_row(pieces, row(4, 1), 4), without_row(pieces, row(4)), led_together(pieces, 4),
                      exchanged_row(pieces, row(4, took=5))):
            self.assertIsNot(newer, pieces)
            self.assertEqual(pieces, elder)
            self.check(pieces, rows, 4)


class LedTogether(Pieces):
    def test_neighbours_that_have_room_in_one_piece(self):
        pieces = built([row(time) for time in range(16)], 8)
        for time in (0, 1, 2, 3, 8, 9, 10, 11):
            pieces = without_row(pieces, row(time))
        self.assertEqual(many_in(pieces), [4, 4])
        self.assertEqual(many_in(led_together(pieces, 8)), [8])

    def test_neighbours_that_have_none(self):
        pieces = built([row(time) for time in range(16)], 8)
        for time in (0, 1, 2, 3, 8, 9, 10):
            pieces = without_row(pieces, row(time))
        self.assertEqual(many_in(pieces), [4, 5])
        self.assertEqual(many_in(led_together(pieces, 8)), [4, 5])

    def test_several_in_one(self):
        pieces = built([row(time) for time in range(40)], 8)
        for time in range(40):
            if time % 8 > 1:
                pieces = without_row(pieces, row(time))
        self.assertEqual(many_in(pieces), [2, 2, 2, 2, 2])
        self.check_led_together(pieces, [row(time) for time in range(40) if time % 8 < 2], 8)
        self.assertEqual(many_in(led_together(pieces, 8)), [8, 2])

    def test_behind_rows_that_came_and_went_by_chance(self):
        for size in SIZES:
            chance = random.Random(size)
            standing = {}
            pieces = []
            for ignored in range(400):
                time = chance.randrange(80)
                if time in standing:
                    pieces = without_row(pieces, standing.pop(time))
                else:
                    standing[time] = row(time)
                    pieces = with_row(pieces, row(time), size)
                if chance.random() < 0.05:
                    pieces = led_together(pieces, size)
                self.check(pieces, standing.values(), size)
            self.check_led_together(pieces, standing.values(), size)


class Summaries(unittest.TestCase):
    def check(self, rows, **wanted):
        self.assertEqual(kind_and_value(extents_of(rows)), kind_and_value(wanted))

    def test_one_row_without_fields(self):
        self.check([row(5, 3)], time=("number", 5, 5), source=("word", "web"), number=("number", 3, 3))

    def test_times_sources_and_numbers(self):
        self.check(
            [row(-5, 3), row(0, 10, "db_two"), row(7, 9, "app"), row(7, 9)],
            time=("number", -5, 7), source=("word", "app", "db_two", "web"), number=("number", 3, 10),
        )

    def check_took(self, values, wanted):
        rows = [row(1, number, **({} if value is None else {"took": value})) for number, value in enumerate(values)]
        self.assertEqual(kind_and_value(extents_of(rows).get("took")), kind_and_value(wanted))

    def test_numbers(self):
        self.check_took([5], ("number", 5, 5))
        self.check_took([5, 5], ("number", 5, 5))
        self.check_took([10, 9, -3], ("number", -3, 10))
        self.check_took([0, -1], ("number", -1, 0))

    def test_words(self):
        self.check_took(["bob"], ("word", "bob"))
        self.check_took(["bob", "ann", "bob", "a1"], ("word", "a1", "ann", "bob"))

    def test_flags(self):
        self.check_took([True], ("flag", True))
        self.check_took([False, False], ("flag", False))
        self.check_took([True, False, True], ("flag", False, True))

    def test_yes_is_not_one(self):
        self.check_took([1], ("number", 1, 1))
        self.check_took([0, 1], ("number", 0, 1))

    def test_fields_that_lack_in_some_or_all_rows(self):
        self.check_took([None, 5, None, 7], ("number", 5, 7))
        self.check_took([None, "ann"], ("word", "ann"))
        self.check_took([None, False], ("flag", False))
        self.check_took([None, None], None)

    def test_several_fields(self):
        self.check(
            [row(1, 0, took=3, user="ann"), row(2, 1, done=False, user="bob"), row(3, 2, took=-3)],
            time=("number", 1, 3), source=("word", "web"), number=("number", 0, 2), took=("number", -3, 3),
            user=("word", "ann", "bob"), done=("flag", False),
        )
