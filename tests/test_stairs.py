import copy
import unittest
from itertools import product
from random import Random

from signsmooth.determinants import is_good, minor
from signsmooth.errors import NoChoice, NoFit, NoNumber, NoSquare, NoStairs, NoTable, TooMany
from signsmooth.stairs import (count, is_staircase, lies_beneath, listed, marks_of, number_of, numbered, stands)
from signsmooth.thinning import thickened, thinned
from tests import reckon
from tests.makers import Prompt, ints, one_alone_below, pascal
from tests.things import FORTY, any_things, no_choices, no_staircases, no_tables, sizes, spoil, table_of_size

SMALL_SIZES = [(rows, columns) for rows, columns in sizes() if rows + columns <= 7]
OF_ALL = 2193664790


def all_marks(rows, columns):
    return [[list(some[i * columns:(i + 1) * columns]) for i in range(rows)]
            for some in product((0, 1), repeat=rows * columns)]


def filled(chance, marks, numbers):
    """A table of the staircase: some numbers above 0 in the filled boxes, thickened."""
    return reckon.thickened([[chance.choice(numbers) if mark else (0, 1) for mark in row] for row in marks])


def chance_stairs(chance, rows, columns):
    return numbered(rows, columns, chance.randrange(count(rows, columns)))


def all_standing(marks):
    """By the determinants of the table with 1 in all filled boxes."""
    table = reckon.thickened(ints(marks))
    return {(tuple(some), tuple(others)) for some, others, value in reckon.all_minors(table) if value}


def no_whole_numbers():
    return [None, True, False, "1", "", (), [], [1], (1,), (1, 1), [[1]]] + [
        thing for thing in any_things() if not isinstance(thing, int)]


class TestMarks(unittest.TestCase):
    def test_marks(self):
        self.assertEqual(marks_of(ints([[0, 1, -1], [2, 0, 0]])), [[0, 1, 1], [1, 0, 0]])
        for rows, columns in sizes():
            table = table_of_size(rows, columns)
            table[rows // 2][columns // 2] = (0, 1)
            kept = copy.deepcopy(table)
            marks = marks_of(table)
            self.assertEqual(marks, [[int(entry[0] != 0) for entry in row] for row in table])
            self.assertEqual({type(mark) for row in marks for mark in row}, {int})
            spoil(marks)
            self.assertEqual(table, kept)
            self.assertEqual(marks_of(table), [[int(entry[0] != 0) for entry in row] for row in table])
        self.assertEqual(marks_of([[(1, FORTY), (-FORTY, 1), (0, 1)]]), [[1, 1, 0]])

    def test_no_table_is_refused(self):
        for thing in no_tables():
            with self.assertRaises(NoTable):
                marks_of(thing)


class TestStaircases(unittest.TestCase):
    def test_ordinary_marks(self):
        for marks in ([[0]], [[1]], [[1, 0], [0, 0]], [[1, 0], [0, 1]], [[0, 1], [1, 1]], [[0, 0], [1, 0], [0, 1]],
                      [[1, 0, 1], [1, 0, 1], [0, 0, 1]], [[1] * 7] * 7, [[0] * 7] * 7, [[0] * 7], [[1]] * 7):
            self.assertIs(is_staircase(marks), True, marks)
        for marks in ([[0, 1], [1, 0]], [[1, 1], [1, 0]], [[1, 1, 1], [1, 1, 0]]):
            self.assertIs(is_staircase(marks), False, marks)

    def test_all_marks(self):
        for rows, columns in SMALL_SIZES + [(7, 1), (1, 7), (2, 6), (6, 2)]:
            for marks in all_marks(rows, columns):
                self.assertIs(is_staircase(marks), reckon.is_staircase(marks), marks)

    def test_great_marks_by_chance(self):
        chance = Random(101)
        for turn in range(300):
            rows, columns = chance.randint(4, 7), chance.randint(4, 7)
            marks = chance_stairs(chance, rows, columns)
            self.assertIs(is_staircase(marks), True)
            i, j = chance.randrange(rows), chance.randrange(columns)
            marks[i][j] = 1 - marks[i][j]
            kept = copy.deepcopy(marks)
            self.assertIs(is_staircase(marks), reckon.is_staircase(marks), marks)
            self.assertEqual(marks, kept)

    def test_any_things(self):
        for thing in no_staircases():
            self.assertIs(is_staircase(thing), False, repr(thing)[:80])

    def test_every_staircase_with_numbers_above_0_is_a_good_table(self):
        chance = Random(102)
        for turn in range(200):
            rows, columns = chance.randint(1, 7), chance.randint(1, 7)
            marks = chance_stairs(chance, rows, columns)
            table = filled(chance, marks, ((1, 1), (2, 1), (1, 3), (5, 2)))
            self.assertTrue(is_good(table))
            self.assertEqual(marks_of(thinned(table)), marks)
            self.assertTrue(all(entry[0] >= 0 for row in thinned(table) for entry in row))

    def test_marks_that_are_no_staircase_make_no_good_table(self):
        for rows, columns in ((2, 2), (2, 3), (3, 2), (3, 3), (2, 4)):
            for marks in all_marks(rows, columns):
                self.assertIs(is_good(thickened(ints(marks))), reckon.is_staircase(marks))


class TestStands(unittest.TestCase):
    def test_ordinary_staircases(self):
        self.assertIs(stands([[1]], [0], [0]), True)
        self.assertIs(stands([[0]], [0], [0]), False)
        self.assertIs(stands([[0, 1], [1, 1]], [0], [0]), True)
        self.assertIs(stands([[0, 1], [1, 1]], [0, 1], [0, 1]), False)
        self.assertIs(stands([[1, 0], [0, 1]], [0, 1], [0, 1]), True)
        self.assertIs(stands([[1, 0], [0, 1]], [0], [1]), False)

    def test_against_all_determinants_of_small_staircases(self):
        chance = Random(103)
        for rows, columns in ((1, 1), (1, 4), (3, 1), (2, 2), (2, 3), (3, 2), (3, 3), (2, 4)):
            for marks in listed(rows, columns):
                kept = copy.deepcopy(marks)
                for table in (filled(chance, marks, ((1, 1),)), filled(chance, marks, ((3, 1), (1, 2), (7, 5)))):
                    for some, others, value in reckon.all_minors(table):
                        self.assertIs(stands(marks, some, others), value != 0, (marks, some, others))
                self.assertEqual(marks, kept)

    def test_against_determinants_of_great_staircases(self):
        chance = Random(104)
        for turn in range(25):
            rows, columns = chance.randint(3, 7), chance.randint(3, 7)
            marks = chance_stairs(chance, rows, columns)
            tables = [filled(chance, marks, ((2, 1), (1, 3), (7, 2))) for each in range(2)]
            for more in range(15):
                size = chance.randint(1, min(rows, columns))
                some, others = sorted(chance.sample(range(rows), size)), sorted(chance.sample(range(columns), size))
                kept = (list(some), list(others))
                answer = stands(marks, some, others)
                self.assertEqual((some, others), kept)
                for table in tables:
                    self.assertIs(answer, minor(table, some, others)[0] != 0)

    def test_full_and_empty_staircases(self):
        for rows, columns in sizes():
            many = min(rows, columns)
            for some, others in (([0], [columns - 1]), ([rows - 1], [0]), (list(range(many)), list(range(many)))):
                self.assertIs(stands([[1] * columns] * rows, some, others), True)
                self.assertIs(stands([[0] * columns] * rows, some, others), False)

    def test_the_order_of_refusals(self):
        for thing in no_staircases():
            for rows, columns in (([0], [0]), ([], []), (None, None), ([0, 1], [0])):
                with self.assertRaises(NoStairs, msg=repr(thing)[:80]):
                    stands(thing, rows, columns)
        marks = [[1, 1, 1], [1, 1, 1]]
        for thing in no_choices(2):
            for columns in ([0], [0, 1], [0, 1, 2]):
                with self.assertRaises(NoChoice):
                    stands(marks, thing, columns)
        for thing in no_choices(3):
            for rows in ([0], [0, 1]):
                with self.assertRaises(NoChoice):
                    stands(marks, rows, thing)
        for rows, columns in (([0], [0, 1]), ([0, 1], [2]), ([0, 1], [0, 1, 2])):
            with self.assertRaises(NoSquare):
                stands(marks, rows, columns)

    def test_rows_are_refused_ahead_of_columns(self):
        with self.assertRaisesRegex(NoChoice, "rows"):
            stands([[1]], [], [])
        with self.assertRaisesRegex(NoChoice, "columns"):
            stands([[1]], [0], [])


class TestBeneath(unittest.TestCase):
    def test_small_staircases_against_all_that_stands(self):
        for rows, columns in ((1, 1), (1, 3), (3, 1), (2, 2), (2, 3), (3, 2)):
            every = listed(rows, columns)
            standing = [all_standing(marks) for marks in every]
            self.assertEqual(len({frozenset(some) for some in standing}), len(every))
            for one, ones in zip(every, standing):
                for other, others in zip(every, standing):
                    kept = copy.deepcopy((one, other))
                    answer = lies_beneath(one, other)
                    self.assertIs(answer, ones <= others, (one, other))
                    self.assertEqual((one, other), kept)
                    if answer and one != other:
                        self.assertLess(sum(map(sum, one)), sum(map(sum, other)))

    def test_staircases_of_three_rows_and_columns_by_chance(self):
        chance = Random(105)
        every = listed(3, 3)
        standing = [all_standing(marks) for marks in every]
        self.assertEqual(len({frozenset(some) for some in standing}), len(every))
        for turn in range(1500):
            k, l = chance.randrange(len(every)), chance.randrange(len(every))
            self.assertIs(lies_beneath(every[k], every[l]), standing[k] <= standing[l])

    def test_fewer_marks_need_not_lie_beneath(self):
        # Marks within others are not what beneath means.
        self.assertIs(lies_beneath([[1, 0], [0, 0]], [[1, 0], [0, 1]]), True)
        self.assertIs(lies_beneath([[0, 1], [0, 0]], [[1, 0], [0, 1]]), False)
        self.assertIs(lies_beneath([[1, 0], [0, 1]], [[0, 1], [1, 1]]), False)
        self.assertIs(lies_beneath([[1, 0], [0, 0]], [[0, 1], [1, 1]]), True)

    def test_each_lies_beneath_itself_and_beneath_the_full_one(self):
        chance = Random(106)
        with Prompt(self):
            for rows, columns in sizes():
                marks = chance_stairs(chance, rows, columns)
                full, empty = [[1] * columns] * rows, [[0] * columns] * rows
                self.assertIs(lies_beneath(marks, marks), True)
                self.assertIs(lies_beneath(marks, full), True)
                self.assertIs(lies_beneath(empty, marks), True)
                self.assertIs(lies_beneath(full, marks), marks == full)
                self.assertIs(lies_beneath(marks, empty), marks == empty)

    def test_great_staircases(self):
        chance = Random(107)
        for turn in range(12):
            rows, columns = chance.randint(3, 5), chance.randint(3, 5)
            one, other = chance_stairs(chance, rows, columns), chance_stairs(chance, rows, columns)
            self.assertIs(lies_beneath(one, other), all_standing(one) <= all_standing(other))

    def test_the_order_of_refusals(self):
        good = [[1, 1], [0, 1]]
        for thing in no_staircases():
            for other in (good, [[1]], [], None, [[0, 1], [1, 0]]):
                with self.assertRaises(NoStairs):
                    lies_beneath(thing, other)
                with self.assertRaises(NoStairs):
                    lies_beneath(other, thing)
        for rows, columns in sizes():
            for other in ([[1, 1], [0, 1]], [[1] * columns] * (rows % 7 + 1), [[1] * (columns % 7 + 1)] * rows):
                if (len(other), len(other[0])) != (rows, columns):
                    with self.assertRaises(NoFit):
                        lies_beneath([[1] * columns] * rows, other)
                    with self.assertRaises(NoFit):
                        lies_beneath(other, [[0] * columns] * rows)
        with self.assertRaises(NoFit):
            lies_beneath([[1, 1, 1]], [[1], [1], [1]])


class TestOrder(unittest.TestCase):
    def test_count(self):
        with Prompt(self):
            self.assertEqual(count(7, 7), OF_ALL)
        self.assertEqual([count(many, many) for many in range(1, 8)],
                         [2, 14, 230, 6902, 329462, 22934774, OF_ALL])
        for rows, columns in sizes():
            self.assertEqual(count(rows, columns), count(columns, rows))
        for many in range(1, 8):
            self.assertEqual(count(1, many), 2 ** many)

    def test_listed(self):
        for rows, columns in SMALL_SIZES:
            every = listed(rows, columns)
            self.assertEqual(every, reckon.staircases(rows, columns))
            self.assertEqual(every, sorted(every))
            self.assertEqual(len(every), count(rows, columns))
            self.assertEqual([number_of(marks) for marks in every], list(range(len(every))))
            for number, marks in enumerate(every):
                self.assertEqual(numbered(rows, columns, number), marks)

    def test_first_and_last(self):
        for rows, columns in sizes():
            self.assertEqual(numbered(rows, columns, 0), [[0] * columns] * rows)
            self.assertEqual(numbered(rows, columns, count(rows, columns) - 1), [[1] * columns] * rows)
            self.assertEqual(number_of([[0] * columns] * rows), 0)
            self.assertEqual(number_of([[1] * columns] * rows), count(rows, columns) - 1)

    def test_numbers_and_staircases_undo_one_another(self):
        chance = Random(108)
        with Prompt(self):
            for rows, columns in sizes():
                for number in (chance.randrange(count(rows, columns)), chance.randrange(count(rows, columns))):
                    marks = numbered(rows, columns, number)
                    kept = copy.deepcopy(marks)
                    self.assertEqual((len(marks), len(marks[0])), (rows, columns))
                    self.assertTrue(reckon.is_staircase(marks))
                    self.assertEqual(number_of(marks), number)
                    self.assertEqual(marks, kept)

    def test_greater_numbers_stand_behind(self):
        chance = Random(109)
        for turn in range(25):
            one, other = chance.randrange(OF_ALL), chance.randrange(OF_ALL)
            self.assertIs(numbered(7, 7, one) < numbered(7, 7, other), one < other)
        for number in (1, 1000, 10 ** 9, OF_ALL - 2):
            self.assertLess(numbered(7, 7, number - 1), numbered(7, 7, number))
            self.assertLess(numbered(7, 7, number), numbered(7, 7, number + 1))

    def test_wrong_sizes(self):
        for wrong in [0, 8, -1, FORTY, -FORTY] + no_whole_numbers():
            for other in (1, 4, 7):
                for some in ((wrong, other), (other, wrong)):
                    for asked, more in ((count, ()), (listed, ()), (numbered, (0,)), (numbered, (FORTY,)), (numbered, (None,))):
                        with self.assertRaises(NoNumber, msg=repr(some)[:80]):
                            asked(*some, *more)

    def test_wrong_numbers(self):
        for rows, columns in sizes():
            for wrong in (-1, count(rows, columns), count(rows, columns) + 1, FORTY, -FORTY, True, False):
                with self.assertRaises(NoNumber):
                    numbered(rows, columns, wrong)
        for wrong in no_whole_numbers():
            with self.assertRaises(NoNumber):
                numbered(3, 2, wrong)

    def test_too_many_to_list(self):
        for rows, columns in sizes():
            if rows + columns > 7:
                with self.assertRaises(TooMany):
                    listed(rows, columns)

    def test_no_staircase_is_refused(self):
        for thing in no_staircases():
            with self.assertRaises(NoStairs):
                number_of(thing)

    def test_the_answers_are_the_askers_own(self):
        first, second = listed(2, 3), listed(2, 3)
        due = copy.deepcopy(second)
        for marks in first:
            spoil(marks)
        first.clear()
        self.assertEqual(second, due)
        self.assertEqual(listed(2, 3), due)
        rows = [id(row) for marks in second for row in marks]
        self.assertEqual(len(set(rows)), len(rows))
        for number in (0, 1, 20, 45):
            marks, again = numbered(2, 3, number), numbered(2, 3, number)
            spoil(marks)
            self.assertEqual(again, due[number])
            self.assertEqual(numbered(2, 3, number), due[number])

    def test_tables_that_are_not_good_have_no_staircase_of_numbers_above_0(self):
        for many in range(1, 8):
            thin = thinned(one_alone_below(many))
            self.assertTrue(not is_staircase(marks_of(thin)) or any(entry[0] < 0 for row in thin for entry in row))
            self.assertEqual(marks_of(thinned(pascal(many, many))), [[1] * many] * many)


if __name__ == "__main__":
    unittest.main()
