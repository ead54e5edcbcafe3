import copy
import unittest

from signsmooth.errors import NoChoice, NoTable
from signsmooth.tables import is_choice, is_table, part_of, turned
from tests.things import (
    TWO_HUNDRED, any_things, choices_of, no_choices, no_tables, number_at, sizes, spoil, table_of_size,
)


class TestIsTable(unittest.TestCase):
    def test_tables_of_every_size(self):
        for rows, columns in sizes():
            self.assertIs(is_table(table_of_size(rows, columns)), True, (rows, columns))

    def test_sizes_just_beyond(self):
        for many in range(1, 9):
            self.assertIs(is_table(table_of_size(8, many)), False)
            self.assertIs(is_table(table_of_size(many, 8)), False)
            self.assertIs(is_table(table_of_size(0, many)), False)
            self.assertIs(is_table(table_of_size(many, 0)), False)

    def test_numbers_of_two_hundred_figures(self):
        self.assertIs(is_table([[(TWO_HUNDRED, 1), (-1, TWO_HUNDRED)]] * 7), True)

    def test_rows_of_unlike_lengths(self):
        for place in range(4):
            for wrong in (1, 2, 4, 7):
                table = table_of_size(4, 3)
                table[place] = [(1, 1)] * wrong
                self.assertIs(is_table(table), False)

    def test_one_list_as_several_rows(self):
        self.assertIs(is_table([[(1, 2), (0, 1)]] * 3), True)

    def test_no_tables(self):
        for thing in no_tables():
            self.assertIs(is_table(thing), False, repr(thing)[:80])

    def test_nothing_is_changed(self):
        for thing in no_tables() + [table_of_size(3, 4)]:
            kept = copy.deepcopy(thing)
            is_table(thing)
            self.assertEqual(thing, kept)


class TestIsChoice(unittest.TestCase):
    def test_every_choice(self):
        for many in range(1, 8):
            for choice in choices_of(many):
                self.assertIs(is_choice(choice, many), True)

    def test_just_those(self):
        lists = [[a, b, c] for a in range(-1, 5) for b in range(-1, 5) for c in range(-1, 5)]
        for many in range(1, 5):
            for thing in lists:
                self.assertIs(is_choice(thing, many), thing in choices_of(many), (thing, many))

    def test_no_choices(self):
        for many in range(1, 8):
            for thing in no_choices(many):
                self.assertIs(is_choice(thing, many), False, (repr(thing)[:80], many))

    def test_any_thing(self):
        for thing in any_things():
            self.assertIs(is_choice(thing, 7), False, repr(thing)[:80])

    def test_of_none_there_is_none(self):
        for thing in ([], [0], [-1]):
            self.assertIs(is_choice(thing, 0), False)

    def test_nothing_is_changed(self):
        for thing in no_choices(4) + choices_of(4):
            kept = copy.deepcopy(thing)
            is_choice(thing, 4)
            self.assertEqual(thing, kept)


class TestPartOf(unittest.TestCase):
    def test_an_ordinary_part(self):
        table = [[(1, 1), (1, 2), (-1, 3)], [(0, 1), (5, 1), (7, 2)], [(4, 1), (4, 1), (9, 5)]]
        self.assertEqual(part_of(table, [0, 2], [1, 2]), [[(1, 2), (-1, 3)], [(4, 1), (9, 5)]])
        self.assertEqual(part_of(table, [1], [0]), [[(0, 1)]])
        self.assertEqual(part_of(table, [1], [0, 1, 2]), [[(0, 1), (5, 1), (7, 2)]])

    def test_every_part_of_some_tables(self):
        for rows, columns in ((1, 1), (1, 7), (7, 1), (3, 4), (4, 3)):
            table = table_of_size(rows, columns)
            for some in choices_of(rows):
                for others in choices_of(columns):
                    due = [[number_at(i, j) for j in others] for i in some]
                    self.assertEqual(part_of(table, some, others), due)

    def test_the_whole_of_every_size(self):
        for rows, columns in sizes():
            table = table_of_size(rows, columns)
            self.assertEqual(part_of(table, list(range(rows)), list(range(columns))), table)

    def test_the_greatest_table(self):
        part = part_of(table_of_size(7, 7), [0, 3, 6], [2, 6])
        self.assertEqual(part, [[number_at(i, j) for j in (2, 6)] for i in (0, 3, 6)])

    def test_no_table_is_refused_ahead_of_all(self):
        for thing in no_tables():
            for rows, columns in (([0], [0]), ([], [0]), ([0], None), ("a", 7)):
                with self.assertRaises(NoTable):
                    part_of(thing, rows, columns)

    def test_no_choice_is_refused(self):
        for rows, columns in ((1, 1), (2, 5), (5, 2), (7, 7)):
            table = table_of_size(rows, columns)
            for thing in no_choices(rows) + any_things():
                with self.assertRaisesRegex(NoChoice, "rows"):
                    part_of(table, thing, [0])
            for thing in no_choices(columns) + any_things():
                with self.assertRaisesRegex(NoChoice, "columns"):
                    part_of(table, [0], thing)

    def test_rows_and_columns_are_bounded_each_by_its_own(self):
        table = table_of_size(2, 3)
        self.assertEqual(part_of(table, [1], [2]), [[number_at(1, 2)]])
        with self.assertRaises(NoChoice):
            part_of(table, [2], [1])
        with self.assertRaises(NoChoice):
            part_of(turned(table), [1], [2])

    def test_rows_are_refused_ahead_of_columns(self):
        with self.assertRaisesRegex(NoChoice, "rows"):
            part_of(table_of_size(2, 2), [], [])

    def test_what_is_handed_in_stays(self):
        table = table_of_size(3, 4)
        rows = [0, 2]
        columns = [1, 3]
        part_of(table, rows, columns)
        self.assertEqual(table, table_of_size(3, 4))
        self.assertEqual((rows, columns), ([0, 2], [1, 3]))

    def test_what_is_refused_changes_nothing(self):
        table = table_of_size(3, 4)
        rows = [2, 0]
        with self.assertRaises(NoChoice):
            part_of(table, rows, [0])
        self.assertEqual(table, table_of_size(3, 4))
        self.assertEqual(rows, [2, 0])

    def test_the_answer_is_the_askers_own(self):
        table = table_of_size(3, 4)
        for rows, columns in (([0, 2], [1, 3]), ([0, 1, 2], [0, 1, 2, 3])):
            due = [[number_at(i, j) for j in columns] for i in rows]
            first = part_of(table, rows, columns)
            second = part_of(table, rows, columns)
            spoil(first)
            self.assertEqual(second, due)
            self.assertEqual(table, table_of_size(3, 4))
            self.assertEqual(part_of(table, rows, columns), due)

    def test_rows_that_are_one_list_become_rows_of_their_own(self):
        answer = part_of([[(1, 2), (3, 1)]] * 3, [0, 1], [0, 1])
        answer[0].append(None)
        self.assertEqual(answer[1], [(1, 2), (3, 1)])

    def test_later_changes_of_what_was_handed_in(self):
        table = table_of_size(3, 4)
        rows = [0, 1, 2]
        columns = [0, 1, 2, 3]
        part = part_of(table, rows, columns)
        spoil(table)
        rows.clear()
        columns.clear()
        self.assertEqual(part, table_of_size(3, 4))


class TestTurned(unittest.TestCase):
    def test_ordinary_tables(self):
        self.assertEqual(turned([[(1, 2)]]), [[(1, 2)]])
        self.assertEqual(turned([[(1, 1), (-1, 2), (0, 1)]]), [[(1, 1)], [(-1, 2)], [(0, 1)]])
        self.assertEqual(
            turned([[(1, 1), (2, 1)], [(3, 1), (4, 1)], [(5, 1), (6, 1)]]),
            [[(1, 1), (3, 1), (5, 1)], [(2, 1), (4, 1), (6, 1)]],
        )

    def test_every_size(self):
        for rows, columns in sizes():
            due = [[number_at(i, j) for i in range(rows)] for j in range(columns)]
            self.assertEqual(turned(table_of_size(rows, columns)), due)
            self.assertEqual(turned(due), table_of_size(rows, columns))
            self.assertIs(is_table(due), True)

    def test_no_table_is_refused(self):
        for thing in no_tables():
            with self.assertRaises(NoTable):
                turned(thing)

    def test_what_is_handed_in_stays_and_the_answer_is_the_askers_own(self):
        for rows, columns in ((1, 1), (1, 7), (7, 1), (3, 4), (7, 7)):
            table = table_of_size(rows, columns)
            due = [[number_at(i, j) for i in range(rows)] for j in range(columns)]
            first = turned(table)
            second = turned(table)
            spoil(first)
            self.assertEqual(table, table_of_size(rows, columns))
            self.assertEqual(second, due)
            self.assertEqual(turned(table), due)
            spoil(table)
            self.assertEqual(second, due)

    def test_rows_that_are_one_list_become_columns(self):
        row = [(1, 2), (3, 1)]
        answer = turned([row, row])
        self.assertEqual(answer, [[(1, 2), (1, 2)], [(3, 1), (3, 1)]])

    def test_columns_alike_become_rows_of_their_own(self):
        answer = turned([[(1, 2), (1, 2)], [(3, 1), (3, 1)]])
        answer[0].append(None)
        self.assertEqual(answer[1], [(1, 2), (3, 1)])


if __name__ == "__main__":
    unittest.main()
