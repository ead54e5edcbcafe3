import copy
import unittest
from itertools import product
from random import Random

from signsmooth.determinants import is_good
from signsmooth.errors import NoTable
from signsmooth.ladders import table_of
from signsmooth.stairs import is_staircase, marks_of
from signsmooth.thinning import thickened, thinned
from tests import reckon
from tests.makers import Prompt, chance_ladder, chance_table, hilbert, ints, one_alone_below, pascal, weighed
from tests.things import TWO_HUNDRED, no_tables, sizes, spoil, table_of_size


class TestThinning(unittest.TestCase):
    def told(self, table):
        kept = copy.deepcopy(table)
        thin, thick = thinned(table), thickened(table)
        self.assertEqual(thin, reckon.thinned(table))
        self.assertEqual(thick, reckon.thickened(table))
        self.assertEqual(thickened(thin), table)
        self.assertEqual(thinned(thick), table)
        self.assertEqual(table, kept)

    def test_ordinary_tables(self):
        self.assertEqual(thinned(ints([[3, 1], [2, 1]])), ints([[1, 1], [2, 1]]))
        self.assertEqual(thickened(ints([[1, 1], [2, 1]])), ints([[3, 1], [2, 1]]))
        self.assertEqual(thinned(ints([[1, 2], [3, 5]])), [[(-1, 5), (2, 1)], [(3, 1), (5, 1)]])
        self.assertEqual(thickened(ints([[1, 2], [3, 5]])), [[(11, 5), (2, 1)], [(3, 1), (5, 1)]])
        self.assertEqual(thickened(ints([[1, 1, 1], [1, 1, 1], [1, 1, 1]])), ints([[6, 3, 1], [3, 2, 1], [1, 1, 1]]))
        self.assertEqual(thinned(ints([[6, 3, 1], [3, 2, 1], [1, 1, 1]])), ints([[1, 1, 1], [1, 1, 1], [1, 1, 1]]))

    def test_nothing_is_taken_by_a_nought(self):
        self.assertEqual(thinned(ints([[1, 2], [3, 0]])), ints([[1, 2], [3, 0]]))
        self.assertEqual(thickened(ints([[1, 2], [3, 0]])), ints([[1, 2], [3, 0]]))
        # The place of row 1 and column 1 has come to 0 by the time that it is gone over.
        self.assertEqual(thinned(ints([[5, 1, 1], [1, 1, 1], [1, 1, 1]])), ints([[4, 0, 1], [0, 0, 1], [1, 1, 1]]))

    def test_one_row_or_one_column_stays(self):
        for many in range(1, 8):
            for table in (table_of_size(1, many), table_of_size(many, 1)):
                self.assertEqual(thinned(table), table)
                self.assertEqual(thickened(table), table)

    def test_tables_of_every_size(self):
        chance = Random(91)
        for rows, columns in sizes():
            self.told(table_of_size(rows, columns))
            self.told(pascal(rows, columns))
            self.told([[(0, 1)] * columns for i in range(rows)])
            for noughts in (0.2, 0.5, 0.8):
                table = chance_table(chance, rows, columns, 5, 3)
                self.told([[(0, 1) if chance.random() < noughts else entry for entry in row] for row in table])

    def test_every_small_table(self):
        for rows, columns, values in ((2, 2, (-2, -1, 0, 1, 3)), (2, 3, (-1, 0, 1)), (3, 2, (-1, 0, 1)), (3, 3, (0, 1))):
            for some in product(values, repeat=rows * columns):
                self.told(ints([some[i * columns:(i + 1) * columns] for i in range(rows)]))

    def test_tables_of_low_rank(self):
        chance = Random(92)
        for turn in range(60):
            tracks = chance.randint(2, 7)
            self.told(table_of(chance_ladder(chance, tracks, tracks, chance.randint(1, tracks), 30, noughts=0.3)))

    def test_great_numbers(self):
        chance = Random(93)
        with Prompt(self):
            self.told(weighed(chance, table_of_size(7, 7), 20))
            self.told([[(chance.randrange(-10 ** 40, 10 ** 40), 1) for j in range(7)] for i in range(7)])
            self.told([[(TWO_HUNDRED + 10 ** i * j, 1) for j in range(4)] for i in range(7)])
            self.told(hilbert(7, 7))

    def test_good_just_where_the_thinned_one_is_a_staircase_with_nothing_below_0(self):
        def by_thinning(table):
            thin = thinned(table)
            return all(entry[0] >= 0 for row in thin for entry in row) and is_staircase(marks_of(thin))
        chance = Random(94)
        tables = [ints([some[:3], some[3:6], some[6:]]) for some in product((0, 1), repeat=9)]
        tables += [ints([some[:3], some[3:]]) for some in product((0, 1, 2), repeat=6)]
        tables += [chance_table(chance, chance.randint(1, 3), chance.randint(1, 4), 3, 2) for turn in range(100)]
        tables += [one_alone_below(many) for many in range(1, 8)]
        for turn in range(100):
            tracks = chance.randint(1, 7)
            table = table_of(chance_ladder(chance, tracks, tracks, chance.randint(1, tracks), 30, noughts=0.2))
            tables.append(table)
            other = copy.deepcopy(table)
            other[chance.randrange(len(table))][chance.randrange(len(table[0]))] = (chance.randint(0, 3), 1)
            tables.append(other)
        seen = {True: 0, False: 0}
        for table in tables:
            good = is_good(table)
            seen[good] += 1
            self.assertIs(by_thinning(table), good, table)
        self.assertGreater(min(seen.values()), 100)

    def test_no_table_is_refused(self):
        for thing in no_tables():
            for asked in (thinned, thickened):
                with self.assertRaises(NoTable):
                    asked(thing)

    def test_the_answers_are_the_askers_own(self):
        for asked in (thinned, thickened):
            for rows, columns in ((1, 1), (1, 3), (3, 1), (3, 4), (7, 7)):
                table = table_of_size(rows, columns)
                first, second = asked(table), asked(table)
                due = copy.deepcopy(second)
                spoil(first)
                self.assertEqual(table, table_of_size(rows, columns))
                self.assertEqual(second, due)
                self.assertEqual(asked(table), due)
                spoil(table)
                self.assertEqual(second, due)


if __name__ == "__main__":
    unittest.main()
