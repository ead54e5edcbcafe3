import copy
import unittest
from random import Random

from signsmooth.apart import taken_apart
from signsmooth.determinants import is_good, minor
from signsmooth.errors import NoPaper, NoTable
from signsmooth.ladders import table_of
from signsmooth.papers import look_paper
from signsmooth.signs import against
from tests import reckon
from tests.makers import (chance_ladder, chance_row, chance_table, hilbert, ints, no_ladders, one_alone_below, pascal,
                          weighed)
from tests.things import any_things, choices_of, no_choices, no_rows, no_tables, sizes, table_of_size

ONE = (1, 1)


class Looked(unittest.TestCase):
    def let_by(self, table, paper):
        kept = copy.deepcopy((table, paper))
        self.assertIsNone(look_paper(table, paper))
        self.assertEqual((table, paper), kept)

    def refused(self, table, paper):
        kept = copy.deepcopy((table, paper))
        with self.assertRaises(NoPaper, msg=repr((table, paper))[:200]):
            look_paper(table, paper)
        self.assertEqual((table, paper), kept)


class TestLadders(Looked):
    def test_a_ladder_of_the_table(self):
        self.let_by([[ONE, (2, 3)], [(0, 1), ONE]], ("ladder", (2, 2, 2, [("down", 0, (2, 3))])))
        self.let_by([[ONE]], ("ladder", (1, 1, 1, [])))
        self.let_by([[ONE]], ("ladder", (7, 1, 1, [("down", 0, (5, 1)), ("weigh", 1, (0, 1))])))
        self.let_by(ints([[1, 0]]), ("ladder", (2, 1, 2, [])))

    def test_ladders_by_chance(self):
        chance = Random(81)
        for turn in range(60):
            tracks = chance.randint(1, 6)
            ladder = chance_ladder(chance, tracks, chance.randint(1, tracks), chance.randint(1, tracks), 12)
            table = reckon.ladder_table(ladder)
            self.let_by(table, ("ladder", ladder))
            i, j = chance.randrange(len(table)), chance.randrange(len(table[0]))
            other = copy.deepcopy(table)
            other[i][j] = reckon.pair(reckon.number(other[i][j]) + chance.choice((-1, 1)))
            self.refused(other, ("ladder", ladder))

    def test_four_hundred_steps(self):
        ladder = (3, 2, 3, [("down", 0, ONE), ("up", 0, (1, 2)), ("down", 1, ONE), ("weigh", 2, (1, 3))] * 100)
        self.let_by(table_of(ladder), ("ladder", ladder))
        self.refused(table_of(ladder), ("ladder", ladder[:3] + (ladder[3][:-1],)))

    def test_other_rows_or_columns(self):
        table = ints([[1, 0], [0, 1]])
        self.let_by(table, ("ladder", (2, 2, 2, [])))
        self.let_by(table, ("ladder", (3, 2, 2, [])))
        for rows, columns in ((1, 2), (2, 1), (1, 1), (3, 2), (2, 3), (3, 3)):
            self.refused(table, ("ladder", (3, rows, columns, [])))
        self.refused(ints([[1, 0, 0], [0, 1, 0]]), ("ladder", (3, 3, 2, [])))

    def test_another_table(self):
        self.refused(ints([[1, 0], [0, 1]]), ("ladder", (2, 2, 2, [("down", 0, ONE)])))
        self.refused(ints([[1, 0], [1, 1]]), ("ladder", (2, 2, 2, [("down", 0, ONE)])))
        self.refused(ints([[0, 1], [1, 0]]), ("ladder", (2, 2, 2, [])))

    def test_no_ladders(self):
        for thing in no_ladders():
            self.refused(ints([[1, 0, 0], [0, 1, 0], [0, 0, 1]]), ("ladder", thing))
            self.refused(ints([[1]]), ("ladder", thing))


class TestBelow(Looked):
    def test_determinants_below_and_others(self):
        self.let_by(ints([[1, 2], [1, 1]]), ("below", [0, 1], [0, 1]))
        self.let_by([[(-1, 3)]], ("below", [0], [0]))
        self.refused(ints([[1, 1], [1, 2]]), ("below", [0, 1], [0, 1]))
        self.refused(ints([[1, 1], [1, 1]]), ("below", [0, 1], [0, 1]))
        self.refused([[(0, 1)]], ("below", [0], [0]))
        self.refused([[(1, 3)]], ("below", [0], [0]))

    def test_every_pair_of_choices(self):
        chance = Random(82)
        for rows, columns in ((2, 3), (3, 3), (4, 2)):
            for turn in range(6):
                table = chance_table(chance, rows, columns, 2, 2)
                for some in choices_of(rows):
                    for others in choices_of(columns):
                        below = len(some) == len(others) and minor(table, some, others)[0] < 0
                        (self.let_by if below else self.refused)(table, ("below", some, others))

    def test_it_need_not_be_the_first_one(self):
        table = ints([[1, -1], [2, -3]])
        for some, others in (([0], [1]), ([1], [1]), ([0, 1], [0, 1])):
            self.let_by(table, ("below", some, others))

    def test_choices_of_unlike_many(self):
        table = ints([[-1] * 3] * 3)
        for some, others in (([0], [0, 1]), ([0, 1], [2]), ([0, 1, 2], [0, 1])):
            self.refused(table, ("below", some, others))

    def test_no_choices(self):
        table = ints([[-1, -2], [-3, -1], [-4, -5]])
        for thing in no_choices(3):
            self.refused(table, ("below", thing, [0]))
            self.refused(table, ("below", thing, [0, 1]))
        for thing in no_choices(2):
            self.refused(table, ("below", [0], thing))
            self.refused(table, ("below", [0, 1], thing))
        for thing in any_things():
            self.refused(table, ("below", thing, thing))


class TestRows(Looked):
    def test_rows_that_tell_against_and_others(self):
        chance = Random(83)
        self.let_by([[(-1, 2)]], ("row", [(3, 1)]))
        self.refused([[(1, 2)]], ("row", [(3, 1)]))
        for turn in range(150):
            rows, columns = chance.randint(1, 4), chance.randint(1, 4)
            table, row = chance_table(chance, rows, columns, 2, 2), chance_row(chance, columns, 2, 1)
            (self.let_by if reckon.tells_against(table, row) else self.refused)(table, ("row", row))

    def test_another_length(self):
        table = ints([[-1, -1], [-1, -1]])
        self.let_by(table, ("row", [ONE, ONE]))
        for length in (1, 3, 4, 7):
            self.refused(table, ("row", [ONE] * length))

    def test_no_rows(self):
        for thing in no_rows():
            self.refused(ints([[-1, -1, -1]]), ("row", thing))
            self.refused(ints([[-1]]), ("row", thing))


class TestPapers(Looked):
    def test_what_is_told_is_let_by(self):
        chance = Random(84)
        tables = [pascal(rows, columns) for rows, columns in sizes()]
        tables += [hilbert(rows, columns) for rows, columns in ((7, 7), (3, 5))]
        tables += [one_alone_below(many) for many in range(1, 8)]
        tables += [weighed(chance, one_alone_below(7), 40), weighed(chance, pascal(6, 7), 40)]
        tables += [chance_table(chance, 3, 3, 2, 2) for turn in range(60)]
        for turn in range(60):
            tracks = chance.randint(1, 7)
            tables.append(table_of(chance_ladder(chance, tracks, tracks, chance.randint(1, tracks), 40, noughts=0.2)))
        for table in tables:
            paper = taken_apart(table)
            self.let_by(table, paper)
            self.assertEqual(paper[0] == "ladder", is_good(table))
            row = against(table)
            self.assertEqual(row is None, is_good(table))
            if row is not None:
                self.let_by(table, ("row", row))

    def test_no_table_has_both(self):
        chance = Random(85)
        for turn in range(60):
            tracks = chance.randint(1, 4)
            ladder = chance_ladder(chance, tracks, tracks, chance.randint(1, tracks), 10, noughts=0.2)
            table = table_of(ladder)
            self.let_by(table, ("ladder", ladder))
            for some in choices_of(len(table)):
                for others in choices_of(len(table[0])):
                    self.refused(table, ("below", some, others))
            for more in range(10):
                self.refused(table, ("row", chance_row(chance, len(table[0]), 2, 1)))

    def test_other_forms(self):
        table = ints([[-1]])
        good = ints([[1]])
        ladder = (1, 1, 1, [])
        self.let_by(good, ("ladder", ladder))
        self.let_by(table, ("below", [0], [0]))
        self.let_by(table, ("row", [ONE]))
        for paper in (["ladder", ladder], ("ladder",), ("ladder", ladder, ladder), ("ladder", ladder, None), (ladder,),
                      ladder, ("Ladder", ladder), ("ladder ", ladder), ("", ladder), (None, ladder), (("ladder", ladder),),
                      ("row", ladder), ("below", ladder), (["ladder"], ladder), ("ladder", [1, 1, 1, []])):
            self.refused(good, paper)
        for paper in (["below", [0], [0]], ("below", [0]), ("below", ([0], [0])), ("below", [0], [0], [0]), ("below",),
                      ("Below", [0], [0]), ("row", [0], [0]), ("ladder", [0], [0]), ([0], [0]), ("below", (0,), (0,)),
                      (True, [0], [0]), ("below", [0], [0], None), ("below", 0, 0), (["below"], [0], [0])):
            self.refused(table, paper)
        for paper in (["row", [ONE]], ("row",), ("row", [ONE], [ONE]), ("row", ONE), ("row", (ONE,)), ("below", [ONE]),
                      ("ladder", [ONE]), ("rows", [ONE]), (1, [ONE]), ("row", [[ONE]]), ([ONE],), [ONE], (["row"], [ONE])):
            self.refused(table, paper)

    def test_any_things(self):
        for table in (ints([[1]]), ints([[-1]]), ints([[1, 2], [1, 1]]), table_of_size(7, 7)):
            for thing in any_things():
                self.refused(table, thing)
                for word in ("ladder", "below", "row"):
                    self.refused(table, (word, thing) if word != "row" or thing != [(1, 2)] else ("row", None))
                    self.refused(table, (word, thing, thing))
                    self.refused(table, (thing, word))
                    self.refused(table, (thing, [(1, 1)]))

    def test_no_table_comes_first(self):
        for thing in no_tables():
            for paper in (("ladder", (1, 1, 1, [])), ("below", [0], [0]), ("row", [ONE]), None, ()):
                with self.assertRaises(NoTable):
                    look_paper(thing, paper)


if __name__ == "__main__":
    unittest.main()
