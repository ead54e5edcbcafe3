import copy
import unittest
from fractions import Fraction
from itertools import product
from random import Random

from signsmooth.apart import first_below, taken_apart
from signsmooth.determinants import is_good, minor
from signsmooth.errors import NoTable
from signsmooth.fracs import sum_of
from signsmooth.ladders import is_ladder, table_of
from signsmooth.tables import turned
from tests import reckon
from tests.makers import Prompt, chance_ladder, chance_table, hilbert, ints, one_alone_below, pascal, powers
from tests.things import FORTY, no_tables, sizes, spoil


class Told(unittest.TestCase):
    def is_ladder_of(self, table, answer):
        self.assertIsInstance(answer, tuple)
        self.assertEqual(len(answer), 2)
        self.assertEqual(answer[0], "ladder")
        ladder = answer[1]
        self.assertIs(is_ladder(ladder), True)
        self.assertEqual(ladder[:3], (max(len(table), len(table[0])), len(table), len(table[0])))
        self.assertEqual(table_of(ladder), table)

    def good(self, table):
        kept = copy.deepcopy(table)
        self.assertIsNone(first_below(table))
        self.is_ladder_of(table, taken_apart(table))
        self.assertEqual(table, kept)

    def not_good(self, table, rows, columns):
        kept = copy.deepcopy(table)
        self.assertEqual(first_below(table), (rows, columns))
        self.assertEqual(taken_apart(table), ("below", rows, columns))
        self.assertLess(minor(table, rows, columns)[0], 0)
        self.assertEqual(table, kept)

    def told(self, table):
        due = reckon.first_below(table)
        if due is None:
            self.good(table)
        else:
            self.not_good(table, due[0], due[1])


class TestGoodTables(Told):
    def test_tables_of_every_size(self):
        for rows, columns in sizes():
            self.good(pascal(rows, columns))
            self.good(hilbert(rows, columns))
            self.good(powers([Fraction(1, 3), Fraction(1, 2), 1, 2, 3, 5, 8][:rows], columns))
            self.good([[(0, 1)] * columns for i in range(rows)])
            self.good([[(2, 3)] * columns for i in range(rows)])

    def test_units(self):
        for many in range(1, 8):
            self.good(reckon.unit(many))
            for columns in range(1, 8):
                self.good(ints([[int(i == j) for j in range(columns)] for i in range(many)]))
                self.good(ints([[int(i + 1 == j) for j in range(columns)] for i in range(many)]))
                self.good(ints([[int(i == j + 2) for j in range(columns)] for i in range(many)]))

    def test_one_number_alone(self):
        for rows, columns in sizes():
            for i in range(rows):
                for j in range(columns):
                    table = [[(0, 1)] * columns for row in range(rows)]
                    table[i][j] = (3, 2)
                    self.good(table)

    def test_rows_and_columns_of_noughts(self):
        for rows, columns in ((2, 2), (3, 5), (5, 3), (4, 4), (7, 7)):
            for gone in range(1, 2 ** min(rows, 4)):
                table = pascal(rows, columns)
                for i in range(rows):
                    if gone >> i & 1:
                        table[i] = [(0, 1)] * columns
                self.good(table)
                self.good(turned(table))
                for row in table:
                    row[columns // 2] = (0, 1)
                self.good(table)
                for row in table:
                    row[0] = (0, 1)
                self.good(table)

    def test_rows_that_hang_on_one_another(self):
        for rows, columns in ((3, 3), (4, 6), (6, 4), (7, 7)):
            base = powers([1, 2, 3, 5, 8, 13, 21][:rows], columns)
            for i in range(rows - 1):
                twice = copy.deepcopy(base)
                twice[i + 1] = list(twice[i])
                self.good(twice)
                self.good(turned(twice))
            for i in range(rows - 2):
                between = copy.deepcopy(base)
                between[i + 1] = [sum_of(one, other) for one, other in zip(base[i], base[i + 2])]
                self.good(between)
                self.good(turned(between))

    def test_staircases_of_ones(self):
        for rows, columns in ((3, 4), (5, 5), (7, 6)):
            for shift in range(-3, 4):
                self.good(ints([[int(j <= i + shift) for j in range(columns)] for i in range(rows)]))
                self.good(ints([[int(j >= i + shift) for j in range(columns)] for i in range(rows)]))
                self.good(ints([[int(0 <= j - i + shift <= 1) for j in range(columns)] for i in range(rows)]))

    def test_tables_of_ladders(self):
        chance = Random(51)
        for turn in range(400):
            tracks = chance.randint(1, 7)
            rows, columns = chance.randint(1, tracks), chance.randint(1, tracks)
            noughts = chance.choice((0, 0.1, 0.3, 0.5))
            self.good(table_of(chance_ladder(chance, tracks, rows, columns, chance.randint(0, 60), noughts=noughts)))

    def test_great_numbers(self):
        great = 10 ** 200 - 1
        for rows, columns in ((7, 7), (3, 7), (7, 2)):
            with Prompt(self):
                self.good([[(great // (i + j + 1), 1) for j in range(columns)] for i in range(rows)])
                self.good([[(1, great - 20 + i + j) for j in range(columns)] for i in range(rows)])
                self.good(powers([10 ** 30 + k * k for k in range(rows)], columns))
        chance = Random(52)
        for turn in range(5):
            weights = ((FORTY, 1), (1, FORTY), (FORTY, FORTY - 1))
            self.good(table_of(chance_ladder(chance, 4, 4, 3, 8, weights)))

    def test_every_number_of_ladders_taken_apart_is_short_where_it_can_be(self):
        for word, k, weight in taken_apart(pascal(7, 7))[1][3]:
            self.assertEqual(weight, (1, 1))


class TestOtherTables(Told):
    def test_ordinary_tables(self):
        self.not_good([[(-1, 3)]], [0], [0])
        self.not_good(ints([[1, 2], [1, 1]]), [0, 1], [0, 1])
        self.not_good(ints([[1, 1, 1], [1, 1, 2], [1, 2, 1]]), [0, 2], [1, 2])
        self.not_good(ints([[1, 2, -1], [1, 1, 1]]), [0], [2])

    def test_a_row_of_one_comes_ahead_of_rows_of_two(self):
        table = ints([[1, 2, 3], [4, 1, 1], [1, 1, -1]])
        self.not_good(table, [2], [2])

    def test_the_first_by_rows_then_by_columns(self):
        self.not_good(ints([[1, 1, 1], [1, -1, -1], [-1, 1, 1]]), [1], [1])
        self.not_good(ints([[1, 1, 2], [1, 1, 1], [1, 1, 1]]), [0, 1], [0, 2])
        self.not_good(ints([[1, 1, 1], [1, 1, 1], [2, 1, 1]]), [0, 2], [0, 1])

    def test_one_alone_below(self):
        for many in range(1, 8):
            self.not_good(one_alone_below(many), list(range(many)), list(range(many)))

    def test_noughts_where_a_good_table_has_none(self):
        self.not_good(ints([[0, 1], [1, 0]]), [0, 1], [0, 1])
        self.not_good(ints([[0, 1], [1, 1]]), [0, 1], [0, 1])
        self.not_good(ints([[1, 0, 1], [1, 1, 1], [1, 1, 1]]), [0, 1], [1, 2])
        self.not_good(ints([[1, 1, 0], [1, 1, 1], [0, 1, 1]]), [0, 1, 2], [0, 1, 2])

    def test_numbers_of_two_hundred_figures(self):
        great = 10 ** 200 - 1
        self.not_good([[(great, 1), (great - 1, 1)], [(great - 1, 1), (great - 2, 1)]], [0, 1], [0, 1])
        chance = Random(53)
        table = [[(10 ** 199 + chance.randrange(10 ** 199), great) for j in range(7)] for i in range(7)]
        table = [[reckon.pair(Fraction(top, bottom)) for top, bottom in row] for row in table]
        with Prompt(self):
            self.told(table)


class TestEither(Told):
    def test_every_small_table(self):
        for rows, columns, least, most in ((1, 4, -1, 1), (4, 1, -1, 1), (2, 2, -1, 3), (2, 3, -1, 1), (3, 2, -1, 1),
                                           (3, 3, 0, 1), (3, 4, 0, 1), (4, 3, 0, 1), (2, 5, 0, 1), (2, 3, 0, 2)):
            for digits in product(range(least, most + 1), repeat=rows * columns):
                self.told(ints([digits[i * columns:(i + 1) * columns] for i in range(rows)]))

    def test_tables_by_chance(self):
        chance = Random(54)
        for rows, columns in ((3, 3), (2, 7), (7, 2), (4, 4)):
            for turn in range(40):
                table = chance_table(chance, rows, columns, 3, 2)
                self.told(table)
                self.told([[(abs(entry[0]), entry[1]) for entry in row] for row in table])

    def test_one_number_changed_in_a_good_table(self):
        chance = Random(55)
        for turn in range(150):
            tracks = chance.randint(2, 5)
            table = table_of(chance_ladder(chance, tracks, tracks, chance.randint(1, tracks), 20, ((1, 1), (2, 1))))
            row = chance.choice(table)
            row[chance.randrange(len(row))] = (chance.randint(0, 4), 1)
            self.told(table)

    def test_a_ladder_just_where_the_table_is_good(self):
        chance = Random(56)
        for turn in range(60):
            table = table_of(chance_ladder(chance, 7, 7, 7, 80, noughts=0.03))
            table[chance.randrange(7)][chance.randrange(7)] = (chance.randint(0, 9), 1)
            answer = taken_apart(table)
            self.assertEqual(answer[0], "ladder" if is_good(table) else "below")
            if answer[0] == "ladder":
                self.is_ladder_of(table, answer)
            else:
                self.assertEqual(first_below(table), answer[1:])
                self.assertLess(minor(table, answer[1], answer[2])[0], 0)

    def test_no_table_is_refused(self):
        for thing in no_tables():
            with self.assertRaises(NoTable):
                first_below(thing)
            with self.assertRaises(NoTable):
                taken_apart(thing)

    def test_the_answers_are_the_askers_own(self):
        table = ints([[1, 2], [1, 1]])
        for asked, start in ((first_below, 0), (taken_apart, 1)):
            first, second = asked(table), asked(table)
            first[start].append(9)
            first[start + 1].clear()
            self.assertEqual(second[start:], ([0, 1], [0, 1]))
            self.assertEqual(asked(table), second)
            # The choices are alike here, and still two lists.
            second[start].append(5)
            self.assertEqual(second[start + 1], [0, 1])
        self.assertEqual(table, ints([[1, 2], [1, 1]]))

    def test_a_told_ladder_is_the_askers_own(self):
        for size in (1, 2, 4, 7):
            table = pascal(size, size)
            first, second = taken_apart(table), taken_apart(table)
            first[1][3].clear()
            self.is_ladder_of(table, second)
            self.is_ladder_of(table, taken_apart(table))
            spoil(table)
            self.is_ladder_of(pascal(size, size), second)


if __name__ == "__main__":
    unittest.main()
