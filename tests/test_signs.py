import copy
import unittest
from fractions import Fraction
from itertools import product
from random import Random

from signsmooth.apart import first_below
from signsmooth.determinants import is_good, is_strict, undone
from signsmooth.errors import NoFit, NoRow, NoTable
from signsmooth.ladders import table_of
from signsmooth.signs import against, behind, first_sign, least_changes, most_changes, tells_against
from signsmooth.tables import is_table
from tests import reckon
from tests.makers import (Prompt, chance_ladder, chance_row, chance_table, hilbert, ints, one_alone_below, pascal, powers,
                          rows_of, weighed, within)
from tests.things import FORTY, TWO_HUNDRED, no_rows, no_tables, sizes, table_of_size


def numbers(*values):
    return [(value, 1) for value in values]


class TestChanges(unittest.TestCase):
    def told(self, row, least, most, first):
        kept = list(row)
        for asked, due in ((least_changes, least), (most_changes, most), (first_sign, first)):
            answer = asked(row)
            self.assertEqual(answer, due, row)
            self.assertIs(type(answer), int)
        self.assertEqual(row, kept)

    def test_ordinary_rows(self):
        self.told(numbers(1, -2, 3), 2, 2, 1)
        self.told(numbers(-1, -2, -3), 0, 0, -1)
        self.told([(1, 2), (-1, 3), (-2, 5), (7, 4)], 2, 2, 1)
        self.told(numbers(5), 0, 0, 1)
        self.told(numbers(-5), 0, 0, -1)

    def test_noughts_are_left_out_or_taken_for_the_most(self):
        self.told(numbers(1, 0, 1), 0, 2, 1)
        self.told(numbers(1, 0, -1), 1, 1, 1)
        self.told(numbers(-1, 0, 0, 1), 1, 3, -1)
        self.told(numbers(-1, 0, 0, -1), 0, 2, -1)
        self.told(numbers(0, 1), 0, 1, 1)
        self.told(numbers(1, 0), 0, 1, 1)
        self.told(numbers(0, 0, -1, 0, 0), 0, 4, -1)
        self.told(numbers(0, 1, 0, 1, 1, 0, -1), 1, 4, 1)

    def test_noughts_alone(self):
        for length in range(1, 8):
            self.told([(0, 1)] * length, 0, length - 1, 0)

    def test_every_row_of_signs(self):
        for length in range(1, 8):
            for row in rows_of(length, (-1, 0, 1)):
                self.told(row, reckon.least_changes(row), reckon.most_changes(row), reckon.first_sign(row))

    def test_only_the_signs_count(self):
        for row in ([(FORTY, 1), (-1, FORTY), (0, 1), (1, TWO_HUNDRED)], [(-TWO_HUNDRED, FORTY), (-1, 9), (0, 1), (3, 2)]):
            self.told(row, reckon.least_changes(row), reckon.most_changes(row), reckon.first_sign(row))

    def test_no_row_is_refused(self):
        for asked in (least_changes, most_changes, first_sign):
            for thing in no_rows():
                with self.assertRaises(NoRow, msg=repr(thing)[:80]):
                    asked(thing)


class TestBehind(unittest.TestCase):
    def test_ordinary_rows(self):
        self.assertEqual(behind(ints([[1, 2], [3, 4], [5, 6]]), numbers(1, -1)), numbers(-1, -1, -1))
        self.assertEqual(behind([[(1, 2), (1, 3)]], [(2, 1), (3, 1)]), [(2, 1)])
        self.assertEqual(behind([[(1, 2)], [(0, 1)]], [(2, 3)]), [(1, 3), (0, 1)])

    def test_rows_of_every_size(self):
        chance = Random(71)
        for rows, columns in sizes():
            for table in (table_of_size(rows, columns), chance_table(chance, rows, columns, 9, 7), hilbert(rows, columns)):
                row = chance_row(chance, columns)
                kept, kept_row = copy.deepcopy(table), list(row)
                answer = behind(table, row)
                self.assertEqual(answer, reckon.behind(table, row))
                self.assertEqual((table, row), (kept, kept_row))
                answer.append("spoilt")
                answer[0] = "spoilt"
                self.assertEqual((table, row), (kept, kept_row))
                self.assertEqual(behind(table, row), reckon.behind(table, row))

    def test_great_numbers(self):
        chance = Random(72)
        table = weighed(chance, table_of_size(7, 7), 60)
        row = [(FORTY + k, FORTY - 7 * k - 1) for k in range(7)]
        row = [reckon.pair(Fraction(top, bottom)) for top, bottom in row]
        self.assertEqual(behind(table, row), reckon.behind(table, row))

    def test_the_order_of_refusals(self):
        good, row = table_of_size(2, 3), numbers(1, 2, 3)
        for asked in (behind, tells_against):
            for thing in no_tables():
                for other in (row, [], None, numbers(1)):
                    with self.assertRaises(NoTable):
                        asked(thing, other)
            for thing in no_rows():
                with self.assertRaises(NoRow):
                    asked(good, thing)
                with self.assertRaises(NoRow):
                    asked(table_of_size(7, 1), thing)
            for rows, columns in sizes():
                for length in range(1, 8):
                    if length != columns:
                        with self.assertRaises(NoFit):
                            asked(table_of_size(rows, columns), [(1, 1)] * length)


class TestAgainst(unittest.TestCase):
    def tells(self, table, row):
        kept, kept_row = copy.deepcopy(table), list(row)
        answer = tells_against(table, row)
        self.assertIs(answer, reckon.tells_against(table, row), (table, row))
        self.assertEqual((table, row), (kept, kept_row))
        return answer

    def not_good(self, table):
        kept = copy.deepcopy(table)
        row = against(table)
        self.assertEqual(table, kept)
        self.assertTrue(is_table([row]), row)
        self.assertEqual(len(row), len(table[0]))
        self.assertTrue(self.tells(table, row))

    def told(self, table):
        if reckon.is_good(table):
            self.assertIsNone(against(table))
        else:
            self.not_good(table)

    def test_more_changes_behind(self):
        self.assertIs(tells_against(ints([[1], [-1]]), numbers(1)), True)
        self.assertIs(tells_against(ints([[1, 0], [0, -1]]), numbers(1, 1)), True)
        self.assertIs(tells_against(ints([[1, 0], [0, -1]]), numbers(1, -1)), False)

    def test_as_many_changes_and_another_first_sign(self):
        self.assertIs(tells_against(ints([[-1]]), numbers(1)), True)
        self.assertIs(tells_against(ints([[-1]]), numbers(-2)), True)
        self.assertIs(tells_against(ints([[0, 1], [1, 0]]), numbers(1, -1)), True)
        self.assertIs(tells_against(ints([[0, 1], [1, 0]]), numbers(1, 1)), False)
        self.assertIs(tells_against(ints([[1]]), numbers(-1)), False)

    def test_noughts_alone_tell_nothing(self):
        self.assertIs(tells_against(ints([[-1, 1], [1, -1]]), numbers(2, 2)), False)
        self.assertIs(tells_against(ints([[0, 0]]), numbers(-1, -2)), False)
        self.assertIs(tells_against(ints([[-1, -1]]), numbers(0, 0)), False)

    def test_noughts_ahead_of_the_first_sign(self):
        self.assertIs(tells_against(ints([[0, 0], [0, -1]]), numbers(0, 1)), True)
        self.assertIs(tells_against(ints([[0, 0], [0, 1]]), numbers(0, 1)), False)

    def test_every_small_table_with_every_small_row(self):
        for rows, columns in ((1, 1), (1, 2), (2, 1), (2, 2), (3, 1), (1, 3)):
            for values in product((-1, 0, 1, 2), repeat=rows * columns):
                table = ints([values[i * columns:(i + 1) * columns] for i in range(rows)])
                some = [row for row in rows_of(columns, (-2, -1, 0, 1, 3)) if self.tells(table, row)]
                self.told(table)
                if reckon.is_good(table):
                    self.assertEqual(some, [])

    def test_tables_by_chance(self):
        chance = Random(73)
        for turn in range(120):
            rows, columns = chance.randint(1, 4), chance.randint(1, 4)
            table = chance_table(chance, rows, columns, 3, 2)
            self.told(table)
            self.told([[(abs(entry[0]), entry[1]) for entry in row] for row in table])
            for more in range(10):
                self.tells(table, chance_row(chance, columns, 2, 1))

    def test_every_small_table_of_noughts_and_ones(self):
        for rows, columns in ((3, 3), (2, 4), (4, 2), (3, 4)):
            for values in product((0, 1), repeat=rows * columns):
                self.told(ints([values[i * columns:(i + 1) * columns] for i in range(rows)]))

    def test_one_determinant_alone_below(self):
        chance = Random(74)
        for many in range(1, 8):
            table = one_alone_below(many)
            self.not_good(table)
            self.not_good(weighed(chance, table, 20))
            for rows, columns in sizes():
                if rows >= many and columns >= many:
                    i, j = chance.randint(0, rows - many), chance.randint(0, columns - many)
                    self.not_good(within(table, rows, columns, i, j))

    def test_one_row_and_all_rows(self):
        for columns in range(1, 8):
            for place in range(columns):
                row = numbers(*range(1, columns + 1))
                row[place] = (-1, 2)
                self.not_good([row])
                self.not_good([[entry] for entry in row])
        for many in range(2, 8):
            self.not_good([list(reversed(row)) for row in pascal(many, many)])
            self.not_good(ints([[1] * many] * (many - 1) + [[1] * (many - 1) + [0]]))

    def test_a_good_table_with_one_number_changed(self):
        chance = Random(75)
        for turn in range(120):
            tracks = chance.randint(2, 7)
            table = table_of(chance_ladder(chance, tracks, tracks, chance.randint(1, tracks), 40, ((1, 1), (2, 1), (1, 3))))
            row = chance.choice(table)
            row[chance.randrange(len(row))] = (chance.randint(-1, 6), 1)
            if is_good(table):
                self.assertIsNone(against(table))
            else:
                self.not_good(table)

    def test_great_numbers(self):
        chance = Random(76)
        for rows, columns in ((7, 7), (2, 7), (7, 3), (1, 1), (5, 6)):
            many = min(rows, columns)
            with Prompt(self):
                self.not_good(weighed(chance, within(one_alone_below(many), rows, columns, 0, columns - many), 40))
                table = [[(chance.randrange(10 ** 39, 10 ** 40), 1) for j in range(columns)] for i in range(rows)]
                table[0][0] = (-FORTY, 1)
                self.not_good(table)
        with Prompt(self):
            great = 10 ** 199
            self.not_good([[(great + chance.randrange(great), 1) for j in range(7)] for i in range(7)])
            table = powers([10 ** 30 + k * k for k in range(7)], 7)
            table[6][6] = (1, 1)
            self.not_good(table)

    def test_great_fractions_with_all_rows_alone_below(self):
        chance = Random(79)
        bottom = 10 ** 198
        for many in (2, 4, 7):
            table = [[reckon.pair(Fraction(bottom // (i + j + 1) + chance.randrange(10 ** 100), bottom + chance.randrange(99)))
                      for j in range(many)] for i in range(many)]
            # So much less at the last place that the determinant of all comes just below 0.
            share = 1 / reckon.number(undone(table)[-1][-1])
            last = reckon.number(table[-1][-1]) - share * Fraction(1001, 1000)
            table[-1][-1] = reckon.pair(Fraction(int(last * bottom), bottom))
            self.assertEqual(first_below(table), (list(range(many)), list(range(many))))
            with Prompt(self):
                row = against(table)
            self.assertTrue(self.tells(table, row))
            self.assertLess(max(abs(entry[0]) for entry in row), 10 ** 4000)

    def test_good_tables(self):
        for rows, columns in sizes():
            for table in (pascal(rows, columns), hilbert(rows, columns), [[(0, 1)] * columns] * rows):
                self.assertIsNone(against(table))

    def test_no_row_tells_against_a_good_table(self):
        chance = Random(77)
        for turn in range(150):
            tracks = chance.randint(1, 7)
            rows, columns = chance.randint(1, tracks), chance.randint(1, tracks)
            table = table_of(chance_ladder(chance, tracks, rows, columns, chance.randint(0, 50), noughts=0.2))
            self.assertIsNone(against(table))
            for more in range(12):
                row = chance_row(chance, columns, chance.choice((1, 2, 5)), 2)
                self.assertFalse(self.tells(table, row))
                after = behind(table, row)
                self.assertLessEqual(least_changes(after), least_changes(row))
                if least_changes(after) == least_changes(row) and first_sign(after) != 0:
                    self.assertEqual(first_sign(after), first_sign(row))

    def test_behind_a_strict_table_the_most_changes_are_the_least_ahead_or_fewer(self):
        chance = Random(78)
        for rows, columns in sizes():
            for table in (pascal(rows, columns), hilbert(rows, columns)):
                self.assertTrue(is_strict(table))
                for more in range(8):
                    row = chance_row(chance, columns, chance.choice((1, 2, 5)), 2)
                    if first_sign(row) != 0:
                        self.assertLessEqual(most_changes(behind(table, row)), least_changes(row))
        # Rows that come out with noughts among them.
        self.assertEqual(behind(pascal(3, 2), numbers(1, -1)), numbers(0, -1, -2))
        self.assertEqual(most_changes(numbers(0, -1, -2)), 1)

    def test_no_table_is_refused(self):
        for thing in no_tables():
            with self.assertRaises(NoTable):
                against(thing)

    def test_the_answers_are_the_askers_own(self):
        table = ints([[1, 2], [1, 1]])
        first, second = against(table), against(table)
        self.assertTrue(tells_against(table, first))
        first[0] = "spoilt"
        first.append("spoilt")
        self.assertTrue(tells_against(table, second))
        self.assertTrue(tells_against(table, against(table)))
        self.assertEqual(table, ints([[1, 2], [1, 1]]))


if __name__ == "__main__":
    unittest.main()
