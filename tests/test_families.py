import copy
import unittest
from fractions import Fraction
from random import Random

from signsmooth.determinants import minor
from signsmooth.errors import NoChoice, NoLadder, NoSquare, TooMany
from signsmooth.families import families, families_counted
from signsmooth.ladders import table_of, weight_of, ways
from tests import reckon
from tests.makers import Prompt, beside, chance_ladder, ladder_of_ways, no_ladders, to_and_fro
from tests.things import any_things, choices_of, no_choices

ONE = (1, 1)


def ones(ladder):
    """The same ladder with the weight 1 at each rung: its determinants count families."""
    return ladder[:3] + ([(word, k, ONE if weight[0] else weight) for word, k, weight in ladder[3]],)


def weight_of_all(ladder, found):
    total = Fraction(0)
    for family in found:
        value = Fraction(1)
        for way in family:
            value *= reckon.number(weight_of(ladder, way))
        total += value
    return total


class TestFamilies(unittest.TestCase):
    def told(self, ladder, rows, columns, due):
        kept = copy.deepcopy((ladder, rows, columns))
        self.assertEqual(families(ladder, rows, columns), due)
        self.assertEqual(families_counted(ladder, rows, columns), len(due))
        self.assertEqual((ladder, rows, columns), kept)

    def test_ordinary_ladders(self):
        ladder = (2, 2, 2, [("down", 0, ONE), ("up", 0, ONE)])
        self.told(ladder, [0], [0], [[[0, 0, 0]], [[0, 1, 0]]])
        self.told(ladder, [0], [1], [[[0, 1, 1]]])
        self.told(ladder, [0, 1], [0, 1], [[[0, 0, 0], [1, 1, 1]]])
        ladder = (3, 3, 3, [("down", 1, ONE), ("down", 0, ONE)])
        self.told(ladder, [0, 1], [1, 2], [[[0, 0, 1], [1, 2, 2]]])
        self.told(ladder, [0, 1], [0, 2], [[[0, 0, 0], [1, 2, 2]]])
        self.told(ladder, [0, 2], [0, 1], [])

    def test_a_rung_towards_a_taken_track_is_not_gone(self):
        self.told((2, 2, 2, [("down", 0, ONE)]), [0, 1], [0, 1], [[[0, 0], [1, 1]]])
        self.told((2, 2, 2, [("up", 0, ONE)]), [0, 1], [0, 1], [[[0, 0], [1, 1]]])

    def test_the_order_goes_by_the_first_way_then_by_the_next(self):
        ladder = (4, 4, 4, [("up", 2, ONE), ("down", 0, ONE), ("up", 0, ONE), ("down", 2, ONE)])
        found = families(ladder, [0, 3], [0, 3])
        self.assertEqual(found, sorted(found))
        self.assertEqual([family[0] for family in found], [[0] * 5, [0] * 5, [0, 0, 1, 0, 0], [0, 0, 1, 0, 0]])
        self.told(ladder, [0, 3], [0, 3], reckon.families(ladder, [0, 3], [0, 3]))

    def test_without_steps(self):
        for tracks in range(1, 6):
            for some in choices_of(tracks):
                for others in choices_of(tracks):
                    if len(some) == len(others):
                        due = [[[i] for i in some]] if some == others else []
                        self.told((tracks, tracks, tracks, []), some, others, due)
        self.told((7, 7, 7, []), list(range(7)), list(range(7)), [[[i] for i in range(7)]])

    def test_against_all_choices_of_ways(self):
        chance = Random(41)
        for turn in range(45):
            tracks = chance.randint(1, 5)
            ladder = chance_ladder(chance, tracks, chance.randint(1, tracks), chance.randint(1, tracks), 10)
            for some, others in reckon.pairs_of_choices(ladder[1], ladder[2]):
                self.told(ladder, some, others, reckon.families(ladder, some, others))

    def test_weights_of_nought(self):
        chance = Random(42)
        for turn in range(30):
            ladder = chance_ladder(chance, 4, 4, 4, 10, noughts=0.5)
            for some, others in reckon.pairs_of_choices(4, 4):
                self.told(ladder, some, others, reckon.families(ladder, some, others))

    def test_one_row_has_the_families_of_its_ways(self):
        ladder = chance_ladder(Random(43), 6, 6, 6, 25)
        for i in range(6):
            for j in range(6):
                self.assertEqual(families(ladder, [i], [j]), [[way] for way in ways(ladder, i, j)])

    def test_the_determinant_is_the_sum_over_the_families(self):
        chance = Random(44)
        cases = ((1, 1, 1, 3, 3), (2, 2, 2, 12, 5), (4, 3, 4, 18, 5), (5, 5, 5, 16, 3), (7, 7, 7, 18, 1))
        for tracks, rows, columns, many, turns in cases:
            for turn in range(turns):
                ladder = chance_ladder(chance, tracks, rows, columns, many)
                table = table_of(ladder)
                for some, others in reckon.pairs_of_choices(rows, columns):
                    found = families(ladder, some, others)
                    self.assertEqual(reckon.pair(weight_of_all(ladder, found)), minor(table, some, others))

    def test_just_three_thousand_and_more(self):
        still = (2, 2, 2, [])
        for many in (0, 1, 2999, 3000):
            found = families(beside(ladder_of_ways(many), still), [0, 4], [1, 4])
            self.assertEqual(len(found), many)
            self.assertTrue(all(one < other for one, other in zip(found, found[1:])))
        self.assertEqual(len(families(beside(ladder_of_ways(50), ladder_of_ways(60)), [0, 3], [1, 4])), 3000)
        for ladder in (beside(ladder_of_ways(3001), still), beside(still, ladder_of_ways(3001))):
            rows, columns = ([0, 4], [1, 4]) if ladder[3][0][1] == 1 else ([0, 2], [0, 3])
            self.assertEqual(families_counted(ladder, rows, columns), 3001)
            with self.assertRaises(TooMany):
                families(ladder, rows, columns)
        both = beside(ladder_of_ways(51), ladder_of_ways(60))
        self.assertEqual(families_counted(both, [0, 3], [1, 4]), 3060)
        with self.assertRaises(TooMany):
            families(both, [0, 3], [1, 4])

    def test_more_begin_than_can_be_gone_through(self):
        for turns in (49, 199):
            lost = (7, 7, 7, to_and_fro(turns))
            late = (7, 7, 7, [("down", 4, ONE)] + to_and_fro(turns) + [("down", 5, ONE)])
            with Prompt(self):
                self.assertEqual(families(lost, [0, 4], [0, 6]), [])
                self.assertEqual(families(lost, [0, 1, 4], [0, 1, 4]), [[[k] * (2 * turns + 1) for k in (0, 1, 4)]])
                self.assertEqual(families(late, [4], [6]), [[[4] + [5] * (2 * turns + 1) + [6]]])
                with self.assertRaises(TooMany):
                    families(lost, [0, 4], [1, 4])
                with self.assertRaises(TooMany):
                    families(late, [0, 4], [1, 6])

    def test_no_ladder_is_refused_first(self):
        for thing in no_ladders():
            for rows, columns in (([0], [0]), (None, None), ([0], [0, 1]), ([], [0])):
                with self.assertRaises(NoLadder):
                    families(thing, rows, columns)
                with self.assertRaises(NoLadder):
                    families_counted(thing, rows, columns)

    def test_no_choice_is_refused_then_rows_first(self):
        for ladder in ((6, 3, 5, []), (6, 3, 5, to_and_fro(50))):
            for asked in (families, families_counted):
                for thing in no_choices(3) + any_things():
                    for columns in ([0], [0, 1], None, [9]):
                        with self.assertRaisesRegex(NoChoice, "rows"):
                            asked(ladder, thing, columns)
                for thing in no_choices(5) + any_things():
                    for rows in ([0], [0, 1, 2]):
                        with self.assertRaisesRegex(NoChoice, "columns"):
                            asked(ladder, rows, thing)

    def test_choices_of_unlike_lengths_are_refused_ahead_of_too_many(self):
        for ladder in ((4, 4, 4, []), (4, 4, 4, to_and_fro(50))):
            for some in choices_of(4):
                for others in choices_of(4):
                    if len(some) != len(others):
                        for asked in (families, families_counted):
                            with self.assertRaises(NoSquare):
                                asked(ladder, some, others)

    def test_the_answer_is_the_askers_own(self):
        ladder = (4, 4, 4, [("up", 2, ONE), ("down", 0, ONE), ("up", 0, ONE), ("down", 2, ONE)])
        due = reckon.families(ladder, [0, 3], [0, 3])
        first, second = families(ladder, [0, 3], [0, 3]), families(ladder, [0, 3], [0, 3])
        place = 0
        for family in first:
            for way in family:
                way.append(place)
                place += 1
        places = [way[-1] for family in first for way in family]
        self.assertEqual(places, list(range(place)))
        for family in first:
            family.clear()
        first.clear()
        self.assertEqual(second, due)
        self.assertEqual(families(ladder, [0, 3], [0, 3]), due)
        ladder[3].clear()
        self.assertEqual(second, due)


class TestFamiliesCounted(unittest.TestCase):
    def test_longer_ladders_by_the_determinants_of_ones(self):
        chance = Random(45)
        for tracks in range(1, 8):
            ladder = chance_ladder(chance, tracks, tracks, tracks, 400, noughts=0.02)
            table = table_of(ones(ladder))
            with Prompt(self):
                for size in range(1, tracks + 1):
                    first, last = reckon.choices(tracks, size)[0], reckon.choices(tracks, size)[-1]
                    for some, others in ((first, last), (last, first), (first, first)):
                        count = families_counted(ladder, some, others)
                        self.assertIs(type(count), int)
                        self.assertEqual((count, 1), minor(table, some, others))

    def test_four_hundred_steps_promptly(self):
        ladder = (7, 7, 7, ([("down", k, ONE) for k in range(6)] + [("up", k, ONE) for k in range(6)]) * 33)
        table = table_of(ladder)
        whole = list(range(7))
        with Prompt(self):
            for some, others in (([0], [6]), ([0, 1, 2], [4, 5, 6]), ([1, 3, 5], [0, 3, 6]), (whole, whole)):
                self.assertEqual((families_counted(ladder, some, others), 1), minor(table, some, others))
        self.assertGreater(families_counted(ladder, [0, 1, 2], [4, 5, 6]), 10 ** 40)


if __name__ == "__main__":
    unittest.main()
