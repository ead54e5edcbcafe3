import copy
import unittest
from itertools import product
from random import Random

from signsmooth.corners import corners, made_by
from signsmooth.determinants import is_strict
from signsmooth.errors import NoCorner, NoTable
from signsmooth.ladders import table_of
from tests import reckon
from tests.makers import Prompt, chance_ladder, chance_table, hilbert, ints, one_alone_below, pascal, powers, weighed
from tests.things import FORTY, TWO_HUNDRED, no_tables, sizes, spoil, table_of_size


def by_determinants(table):
    rows = reckon.numbers(table)

    def corner(i, j):
        many = min(i, j) + 1
        return reckon.by_orders([[rows[i - many + 1 + k][j - many + 1 + l] for l in range(many)] for k in range(many)])
    return reckon.table([[corner(i, j) for j in range(len(rows[0]))] for i in range(len(rows))])


def chance_corners(chance, rows, columns, top=5, bottom=3):
    table = chance_table(chance, rows, columns, top, bottom)
    return [[entry if entry[0] else (chance.choice((-1, 1)), 1) for entry in row] for row in table]


class TestCorners(unittest.TestCase):
    def told(self, table):
        kept = copy.deepcopy(table)
        answer = corners(table)
        self.assertEqual(answer, by_determinants(table))
        self.assertEqual(table, kept)
        if any(entry[0] == 0 for row in answer for entry in row):
            with self.assertRaises(NoCorner):
                made_by(answer)
        else:
            self.assertEqual(made_by(answer), table)

    def made(self, table):
        kept = copy.deepcopy(table)
        answer = made_by(table)
        self.assertEqual(corners(answer), table)
        self.assertEqual(by_determinants(answer), table)
        self.assertEqual(table, kept)

    def test_ordinary_tables(self):
        self.assertEqual(corners(ints([[1, 2], [3, 4]])), ints([[1, 2], [3, -2]]))
        self.assertEqual(made_by(ints([[1, 2], [3, -2]])), ints([[1, 2], [3, 4]]))
        self.assertEqual(corners(ints([[1, 2, 3], [4, 5, 7]])), ints([[1, 2, 3], [4, -3, -1]]))
        self.assertEqual(made_by([[(1, 2), (1, 1)], [(1, 1), (1, 3)]]), [[(1, 2), (1, 1)], [(1, 1), (8, 3)]])
        self.assertEqual(made_by(ints([[1] * 3] * 3)), ints([[1, 1, 1], [1, 2, 3], [1, 3, 6]]))

    def test_tables_of_every_size(self):
        chance = Random(111)
        for rows, columns in sizes():
            self.told(pascal(rows, columns))
            if rows + columns < 12:
                self.told(table_of_size(rows, columns))
                self.told(hilbert(rows, columns))
                self.told(chance_table(chance, rows, columns, 3, 2))
                self.made(chance_corners(chance, rows, columns))
            self.made(chance_corners(chance, rows, columns, 9, 1))
            self.made(ints([[1] * columns] * rows))

    def test_seven_rows_and_columns(self):
        chance = Random(112)
        self.told(chance_table(chance, 7, 7, 9, 1))
        self.made(chance_corners(chance, 7, 7, 4, 3))

    def test_great_numbers(self):
        chance = Random(113)
        with Prompt(self):
            self.told([[(chance.randrange(-10 ** 40, 10 ** 40), 1) for j in range(7)] for i in range(7)])
            self.told(weighed(chance, table_of_size(4, 5), 20))
            self.told([[(TWO_HUNDRED + 10 ** i * j * j, 1) for j in range(4)] for i in range(4)])
            answer = made_by([[(FORTY + 10 * i + j * j, 1) for j in range(7)] for i in range(7)])
            self.assertEqual(corners(answer), [[(FORTY + 10 * i + j * j, 1) for j in range(7)] for i in range(7)])
            table = weighed(chance, ints([[1] * 7] * 7), 20)
            self.assertEqual(corners(made_by(table)), table)
            self.made([[(FORTY, 1), (1, FORTY), (-FORTY, 3)], [(1, FORTY), (-1, 1), (FORTY, 7)]])

    def test_a_nought_anywhere(self):
        for rows, columns in sizes():
            for i, j in product(range(rows), range(columns)):
                table = [[(2, 3)] * columns for row in range(rows)]
                table[i][j] = (0, 1)
                kept = copy.deepcopy(table)
                with self.assertRaises(NoCorner):
                    made_by(table)
                self.assertEqual(table, kept)

    def test_no_table_comes_first(self):
        for thing in no_tables() + [[[(0, 1)], []], [[(0, 1)] * 8]]:
            for asked in (corners, made_by):
                with self.assertRaises(NoTable):
                    asked(thing)

    def test_strict_just_where_all_corners_are_above_0(self):
        chance = Random(114)
        tables = [ints([some[:2], some[2:]]) for some in product((-1, 0, 1, 2, 3), repeat=4)]
        tables += [ints([some[:3], some[3:]]) for some in product((0, 1, 2), repeat=6)]
        tables += [one_alone_below(many) for many in range(1, 8)] + [pascal(many, 7) for many in range(1, 8)]
        tables += [powers([1, 2, 3, 5, 8, 13, 21][:rows], columns) for rows, columns in sizes()]
        for turn in range(150):
            tracks = chance.randint(1, 5)
            tables.append(table_of(chance_ladder(chance, tracks, tracks, chance.randint(1, tracks), 40, noughts=0.02)))
        seen = {True: 0, False: 0}
        for table in tables:
            strict = all(entry[0] > 0 for row in corners(table) for entry in row)
            self.assertIs(is_strict(table), strict)
            self.assertIs(reckon.is_strict(table) if len(table) < 6 else is_strict(table), strict)
            seen[strict] += 1
        self.assertGreater(min(seen.values()), 50)

    def test_tables_made_by_corners_above_0_are_strict_and_none_can_be_left_out(self):
        for rows, columns in sizes():
            self.assertTrue(is_strict(made_by(ints([[1] * columns] * rows))))
            for i, j in product(range(rows), range(columns)):
                some = [[(1, 1)] * columns for row in range(rows)]
                some[i][j] = (-1, 1)
                table = made_by(some)
                self.assertEqual([entry[0] > 0 for row in corners(table) for entry in row].count(False), 1)
                self.assertFalse(is_strict(table))

    def test_the_answers_are_the_askers_own(self):
        for asked in (corners, made_by):
            for rows, columns in ((1, 1), (1, 3), (3, 1), (4, 3), (7, 7)):
                table = pascal(rows, columns)
                first, second = asked(table), asked(table)
                due = copy.deepcopy(second)
                spoil(first)
                self.assertEqual(table, pascal(rows, columns))
                self.assertEqual(second, due)
                self.assertEqual(asked(table), due)
                spoil(table)
                self.assertEqual(second, due)


if __name__ == "__main__":
    unittest.main()
