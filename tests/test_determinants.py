import copy
import unittest
from fractions import Fraction
from random import Random

from signsmooth.determinants import determinant, is_good, is_strict, minor, product, undone
from signsmooth.errors import NoChoice, NoFit, NoSquare, NoTable, NoUndoing
from signsmooth.fracs import is_fraction, product_of, sum_of
from signsmooth.tables import is_table, part_of, turned
from tests import reckon
from tests.makers import Prompt, chance_table, hilbert, ints, one_alone_below, pascal, powers
from tests.things import FORTY, TWO_HUNDRED, any_things, choices_of, no_choices, no_tables, sizes, spoil


def awkward_squares(chance, many, top, bottom):
    """Tables of so many rows and columns on which going from corner to corner meets noughts, or nothing is left."""
    found = [chance_table(chance, many, many, top, bottom) for turn in range(3)]
    base = found[0]
    nought_row = copy.deepcopy(base)
    nought_row[many // 2] = [(0, 1)] * many
    found += [nought_row, turned(nought_row), [[(0, 1)] * many for i in range(many)]]
    nought_column = copy.deepcopy(base)
    for i in range(many - 1):
        nought_column[i][0] = (0, 1)
    found += [nought_column, turned(nought_column), base[::-1], [row[::-1] for row in base]]
    crossing = [[entry if i + j == many - 1 else (0, 1) for j, entry in enumerate(row)] for i, row in enumerate(base)]
    found.append(crossing)
    if many > 1:
        twice = copy.deepcopy(base)
        twice[-1] = list(twice[0])
        found += [twice, turned(twice)]
    if many > 2:
        hanging = copy.deepcopy(base)
        hanging[1] = [sum_of(one, other) for one, other in zip(hanging[0], hanging[2])]
        found += [hanging, turned(hanging)]
        holed = copy.deepcopy(base)
        for i in range(many):
            holed[i][i] = (0, 1)
        found.append(holed)
    return found


class Told(unittest.TestCase):
    def is_told(self, answer, value):
        self.assertIs(is_fraction(answer), True)
        self.assertEqual(answer, reckon.pair(value))

    def is_told_table(self, answer, due):
        self.assertIs(is_table(answer), True)
        self.assertEqual(answer, due)


class TestDeterminant(Told):
    def test_ordinary_tables(self):
        self.assertEqual(determinant([[(3, 7)]]), (3, 7))
        self.assertEqual(determinant([[(0, 1)]]), (0, 1))
        self.assertEqual(determinant(ints([[1, 2], [3, 4]])), (-2, 1))
        self.assertEqual(determinant([[(1, 2), (1, 3)], [(1, 4), (1, 5)]]), (1, 60))
        self.assertEqual(determinant(ints([[0, 1], [1, 0]])), (-1, 1))
        self.assertEqual(determinant(ints([[0, 1, 0], [0, 0, 1], [1, 0, 0]])), (1, 1))
        self.assertEqual(determinant(ints([[2, 0, 1], [1, 3, 2], [1, 1, 4]])), (18, 1))

    def test_small_numbers_against_all_orders(self):
        chance = Random(7)
        for many in range(1, 8):
            for bottom in (1, 5):
                for table in awkward_squares(chance, many, 4, bottom):
                    self.is_told(determinant(table), reckon.by_orders(reckon.numbers(table)))

    def test_great_numbers_against_all_orders(self):
        chance = Random(8)
        for many, top, bottom in ((2, FORTY, FORTY), (3, FORTY, FORTY), (4, FORTY, 1), (5, FORTY, FORTY),
                                  (7, FORTY, 1), (7, TWO_HUNDRED, 1), (3, TWO_HUNDRED, TWO_HUNDRED)):
            for table in awkward_squares(chance, many, top, bottom)[:8]:
                self.is_told(determinant(table), reckon.by_orders(reckon.numbers(table)))

    def test_seven_rows_of_fractions_of_forty_figures(self):
        chance = Random(9)
        table = chance_table(chance, 7, 7, FORTY, FORTY)
        scale = 1
        for row in table:
            for entry in row:
                scale *= entry[1]
        whole = [[entry[0] * (scale // entry[1]) for entry in row] for row in table]
        with Prompt(self):
            answer = determinant(table)
        self.is_told(answer, Fraction(reckon.by_orders(whole), scale ** 7))

    def test_every_order_of_the_rows(self):
        for many in range(1, 6):
            for order, sign in reckon.orders(many):
                self.assertEqual(determinant([reckon.unit(many)[i] for i in order]), (sign, 1))

    def test_of_another_table_it_is_refused(self):
        for rows, columns in sizes():
            table = [[(1, 1)] * columns for i in range(rows)]
            if rows != columns:
                with self.assertRaises(NoSquare):
                    determinant(table)

    def test_no_table_is_refused_first(self):
        for thing in no_tables():
            with self.assertRaises(NoTable):
                determinant(thing)

    def test_what_is_handed_in_stays(self):
        chance = Random(10)
        for table in awkward_squares(chance, 5, 4, 3):
            kept = copy.deepcopy(table)
            determinant(table)
            self.assertEqual(table, kept)


class TestMinor(Told):
    def test_every_choice(self):
        chance = Random(11)
        for rows, columns in ((1, 1), (1, 7), (7, 1), (3, 4), (5, 3), (5, 5)):
            table = chance_table(chance, rows, columns, 4, 3)
            for some, others, value in reckon.all_minors(table):
                self.is_told(minor(table, some, others), value)

    def test_choices_of_the_greatest_table(self):
        chance = Random(12)
        table = chance_table(chance, 7, 7)
        for turn, (some, others, value) in enumerate(reckon.all_minors(table)):
            if turn % 7 == 0 or len(some) > 5:
                self.is_told(minor(table, some, others), value)

    def test_it_is_the_determinant_of_the_part(self):
        chance = Random(13)
        table = chance_table(chance, 4, 6, FORTY, FORTY)
        for some, others in reckon.pairs_of_choices(4, 6):
            self.assertEqual(minor(table, some, others), determinant(part_of(table, some, others)))

    def test_no_table_is_refused_first(self):
        for thing in no_tables():
            for rows, columns in (([0], [0]), (None, None), ([0], [0, 1]), ([], [0])):
                with self.assertRaises(NoTable):
                    minor(thing, rows, columns)

    def test_no_choice_is_refused_then_rows_first(self):
        table = pascal(3, 5)
        for thing in no_choices(3) + any_things():
            for columns in ([0], [0, 1], None, [9]):
                with self.assertRaisesRegex(NoChoice, "rows"):
                    minor(table, thing, columns)
        for thing in no_choices(5) + any_things():
            for rows in ([0], [0, 1], [0, 1, 2]):
                with self.assertRaisesRegex(NoChoice, "columns"):
                    minor(table, rows, thing)

    def test_choices_of_unlike_lengths_are_refused_last(self):
        table = pascal(4, 4)
        for some in choices_of(4):
            for others in choices_of(4):
                if len(some) != len(others):
                    with self.assertRaises(NoSquare):
                        minor(table, some, others)

    def test_what_is_handed_in_stays(self):
        table, rows, columns = pascal(4, 5), [0, 3], [2, 4]
        minor(table, rows, columns)
        self.assertEqual((table, rows, columns), (pascal(4, 5), [0, 3], [2, 4]))


class TestProduct(Told):
    def test_ordinary_tables(self):
        one, other = ints([[1, 2], [3, 4], [5, 6]]), ints([[1, 0, -1], [2, 1, 0]])
        self.assertEqual(product(one, other), ints([[5, 2, -1], [11, 4, -3], [17, 6, -5]]))
        self.assertEqual(product([[(1, 2), (1, 3)]], [[(2, 1)], [(3, 4)]]), [[(5, 4)]])

    def test_every_size(self):
        chance = Random(14)
        for rows, middle in sizes():
            for columns in range(1, 8):
                one = chance_table(chance, rows, middle, 4, 3)
                other = chance_table(chance, middle, columns, 4, 3)
                self.is_told_table(product(one, other), reckon.multiplied(one, other))

    def test_great_numbers(self):
        chance = Random(15)
        for rows, middle, columns, great in ((7, 7, 7, FORTY), (2, 7, 3, FORTY), (3, 3, 3, TWO_HUNDRED)):
            one = chance_table(chance, rows, middle, great, great)
            other = chance_table(chance, middle, columns, great, great)
            with Prompt(self):
                answer = product(one, other)
            self.is_told_table(answer, reckon.multiplied(one, other))

    def test_three_tables_by_either_pair_first(self):
        chance = Random(16)
        for one, two, three, four in ((3, 4, 2, 5), (1, 7, 1, 7), (7, 7, 7, 7), (2, 1, 1, 3)):
            first = chance_table(chance, one, two, 4, 3)
            second = chance_table(chance, two, three, 4, 3)
            third = chance_table(chance, three, four, 4, 3)
            self.assertEqual(product(product(first, second), third), product(first, product(second, third)))

    def test_the_determinant_of_a_product(self):
        chance = Random(17)
        for many in range(1, 8):
            one, other = chance_table(chance, many, many, 4, 3), chance_table(chance, many, many, 4, 3)
            due = product_of(determinant(one), determinant(other))
            self.assertEqual(determinant(product(one, other)), due)

    def test_determinants_of_a_product_by_choices(self):
        chance = Random(18)
        for rows, middle, columns in ((3, 4, 3), (4, 2, 3), (2, 6, 2), (4, 4, 4)):
            one, other = chance_table(chance, rows, middle, 4, 2), chance_table(chance, middle, columns, 4, 2)
            whole = product(one, other)
            for some, others in reckon.pairs_of_choices(rows, columns):
                total = (0, 1)
                for between in reckon.choices(middle, len(some)):
                    total = sum_of(total, product_of(minor(one, some, between), minor(other, between, others)))
                self.assertEqual(minor(whole, some, others), total)

    def test_no_table_is_refused_first(self):
        for thing in no_tables():
            for other in (pascal(1, 1), pascal(3, 2), thing, None):
                with self.assertRaises(NoTable):
                    product(thing, other)
                with self.assertRaises(NoTable):
                    product(other, thing)

    def test_tables_that_do_not_fit(self):
        for rows, columns in sizes():
            for others in range(1, 8):
                if others != columns:
                    with self.assertRaises(NoFit):
                        product(pascal(rows, columns), pascal(others, rows))

    def test_what_is_handed_in_stays_and_the_answer_is_the_askers_own(self):
        one, other = pascal(3, 4), hilbert(4, 3)
        first, second = product(one, other), product(one, other)
        spoil(first)
        self.assertEqual((one, other), (pascal(3, 4), hilbert(4, 3)))
        self.assertEqual(second, reckon.multiplied(one, other))
        self.assertEqual(product(one, other), second)
        alike = product([[(1, 1)]] * 2, [[(1, 1)]])
        alike[0].append(None)
        self.assertEqual(alike[1], [(1, 1)])


class TestUndone(Told):
    def undo(self, table):
        kept = copy.deepcopy(table)
        if determinant(table) == (0, 1):
            with self.assertRaises(NoUndoing):
                undone(table)
        else:
            answer = undone(table)
            self.assertIs(is_table(answer), True)
            self.assertEqual(product(table, answer), reckon.unit(len(table)))
            self.assertEqual(product(answer, table), reckon.unit(len(table)))
        self.assertEqual(table, kept)

    def test_ordinary_tables(self):
        self.assertEqual(undone([[(-3, 2)]]), [[(-2, 3)]])
        self.assertEqual(undone(ints([[1, 2], [3, 4]])), [[(-2, 1), (1, 1)], [(3, 2), (-1, 2)]])
        self.assertEqual(undone(ints([[0, 2], [1, 0]])), [[(0, 1), (1, 1)], [(1, 2), (0, 1)]])
        self.assertEqual(undone(ints([[0, 0, 1], [1, 0, 0], [0, 1, 0]])), ints([[0, 1, 0], [0, 0, 1], [1, 0, 0]]))

    def test_multiplied_either_way_round(self):
        chance = Random(19)
        for many in range(1, 8):
            for bottom in (1, 4):
                for table in awkward_squares(chance, many, 4, bottom):
                    self.undo(table)

    def test_great_numbers(self):
        chance = Random(20)
        for many, top, bottom in ((2, FORTY, FORTY), (4, FORTY, FORTY), (7, FORTY, 1), (5, TWO_HUNDRED, 1),
                                  (2, TWO_HUNDRED, TWO_HUNDRED)):
            for table in awkward_squares(chance, many, top, bottom)[:7]:
                with Prompt(self):
                    self.undo(table)

    def test_every_order_of_the_rows(self):
        for many in range(1, 6):
            for order, sign in reckon.orders(many):
                self.undo([reckon.unit(many)[i] for i in order])

    def test_hanging_rows_are_refused(self):
        for rows in ([[0]], [[1, 2], [2, 4]], [[0, 0], [1, 1]], [[1, 2, 3], [4, 5, 6], [7, 8, 9]]):
            with self.assertRaises(NoUndoing):
                undone(ints(rows))

    def test_another_table_is_refused_ahead_of_that(self):
        for rows, columns in sizes():
            if rows != columns:
                with self.assertRaises(NoSquare):
                    undone([[(0, 1)] * columns for i in range(rows)])
                with self.assertRaises(NoSquare):
                    undone(pascal(rows, columns))

    def test_no_table_is_refused_first(self):
        for thing in no_tables():
            with self.assertRaises(NoTable):
                undone(thing)

    def test_the_answer_is_the_askers_own(self):
        table = pascal(4, 4)
        first, second = undone(table), undone(table)
        spoil(first)
        self.assertEqual(product(table, second), reckon.unit(4))
        self.assertEqual(undone(table), second)
        spoil(table)
        self.assertEqual(product(pascal(4, 4), second), reckon.unit(4))


class TestGoodAndStrict(unittest.TestCase):
    def told(self, table):
        kept = copy.deepcopy(table)
        self.assertIs(is_good(table), reckon.is_good(table), table)
        self.assertIs(is_strict(table), reckon.is_strict(table), table)
        self.assertEqual(table, kept)

    def test_ordinary_tables(self):
        self.assertIs(is_good(ints([[1, 1], [1, 2]])), True)
        self.assertIs(is_strict(ints([[1, 1], [1, 2]])), True)
        self.assertIs(is_good(ints([[1, 1], [1, 1]])), True)
        self.assertIs(is_strict(ints([[1, 1], [1, 1]])), False)
        self.assertIs(is_good(ints([[1, 2], [1, 1]])), False)
        self.assertIs(is_strict(ints([[1, 2], [1, 1]])), False)
        self.assertIs(is_good([[(0, 1)]]), True)
        self.assertIs(is_strict([[(0, 1)]]), False)
        self.assertIs(is_strict([[(1, 9)]]), True)
        self.assertIs(is_good([[(-1, 9)]]), False)

    def test_every_small_table(self):
        for rows, columns, least, most in ((1, 3, -1, 1), (3, 1, -1, 1), (2, 2, -1, 3), (2, 3, -1, 1), (3, 3, 0, 1)):
            many = most - least + 1
            for turn in range(many ** (rows * columns)):
                digits = [turn // many ** k % many + least for k in range(rows * columns)]
                self.told(ints([digits[i * columns:(i + 1) * columns] for i in range(rows)]))

    def test_strict_tables_of_every_size(self):
        for rows, columns in sizes():
            for table in (pascal(rows, columns), hilbert(rows, columns), powers(range(1, rows + 1), columns)):
                self.assertIs(is_good(table), True)
                self.assertIs(is_strict(table), True)
                self.assertIs(is_strict(turned(table)), True)
            if min(rows, columns) > 1:
                self.assertIs(is_good(pascal(rows, columns)[::-1]), False)
                self.assertIs(is_strict(pascal(rows, columns)[::-1]), False)

    def test_one_determinant_below_alone(self):
        for many in range(1, 8):
            table = one_alone_below(many)
            below = [some for some, others, value in reckon.all_minors(table) if value < 0]
            self.assertEqual(below, [list(range(many))])
            self.assertIs(is_good(table), False)
            self.assertIs(is_strict(table), False)

    def test_one_determinant_of_nought_alone(self):
        for many in range(1, 8):
            table = pascal(many, many)
            table[-1][-1] = (table[-1][-1][0] - 1, 1)
            noughts = [some for some, others, value in reckon.all_minors(table) if value == 0]
            self.assertEqual(noughts, [list(range(many))])
            self.assertIs(is_good(table), True)
            self.assertIs(is_strict(table), False)

    def test_one_number_changed_in_a_strict_table(self):
        chance = Random(21)
        for rows, columns in ((2, 5), (4, 4), (5, 3), (4, 6)):
            for i in range(rows):
                for j in range(columns):
                    table = powers([1, 2, 3, 5, 8][:rows], columns)
                    table[i][j] = reckon.pair(Fraction(table[i][j][0] * chance.randint(7, 13), 10))
                    self.told(table)

    def test_tables_with_noughts(self):
        for rows, columns in ((3, 3), (4, 5), (5, 4)):
            for place in range(rows):
                table = pascal(rows, columns)
                table[place] = [(0, 1)] * columns
                self.told(table)
                self.told(turned(table))
        for many in range(1, 8):
            self.assertIs(is_good(reckon.unit(many)), True)
            self.assertIs(is_strict(reckon.unit(many)), many == 1)
            self.assertIs(is_good(reckon.unit(many)[::-1]), many == 1)

    def test_tables_by_chance(self):
        chance = Random(22)
        for rows, columns in ((2, 7), (7, 2), (3, 4), (4, 4)):
            for turn in range(30):
                table = chance_table(chance, rows, columns, 3, 2)
                self.told([[(abs(entry[0]), entry[1]) for entry in row] for row in table])

    def test_numbers_of_two_hundred_figures(self):
        great = 10 ** 200 - 1
        strict = [[(great // (i + j + 1), 1) for j in range(7)] for i in range(7)]
        with Prompt(self):
            self.assertIs(is_strict(strict), True)
            self.assertIs(is_good(strict), True)
            self.assertIs(is_good(strict[::-1]), False)
        close = [[(great, 1), (great - 1, 1)], [(great - 1, 1), (great - 2, 1)]]
        self.assertIs(is_good(close), False)
        self.assertIs(is_good([[(1, great), (1, great - 1)], [(1, great - 1), (1, great - 2)]]), True)
        self.assertIs(is_strict([[(1, great), (1, great - 1)], [(1, great - 1), (1, great - 2)]]), True)

    def test_no_table_is_refused(self):
        for thing in no_tables():
            with self.assertRaises(NoTable):
                is_good(thing)
            with self.assertRaises(NoTable):
                is_strict(thing)


if __name__ == "__main__":
    unittest.main()
