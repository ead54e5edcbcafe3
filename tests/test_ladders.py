import copy
import unittest
from fractions import Fraction
from random import Random

from signsmooth.determinants import product
from signsmooth.errors import NoChoice, NoLadder, TooMany
from signsmooth.fracs import is_fraction
from signsmooth.ladders import is_ladder, table_of, ways, weight_of
from signsmooth.tables import is_table
from tests import reckon
from tests.makers import Prompt, chance_ladder, ints, ladder_of_ways, no_ladders, to_and_fro
from tests.things import FORTY, any_things, spoil

ONE = (1, 1)
GREAT = ((FORTY, 1), (1, FORTY), (FORTY, FORTY - 1), (3, FORTY), (FORTY, 10 ** 39))


def small_ladders(chance, turns, most_steps):
    """Ladders with few enough ways to go through them all."""
    found = []
    for turn in range(turns):
        tracks = chance.randint(1, 7)
        rows, columns = chance.randint(1, tracks), chance.randint(1, tracks)
        found.append(chance_ladder(chance, tracks, rows, columns, chance.randint(0, most_steps)))
    return found


def each_end(ladder):
    return [(i, j) for i in range(ladder[1]) for j in range(ladder[2])]


class TestIsLadder(unittest.TestCase):
    def test_without_steps_at_every_size(self):
        for tracks in range(-1, 10):
            for rows in range(-1, 10):
                for columns in range(-1, 10):
                    due = 1 <= tracks <= 7 and 1 <= rows <= tracks and 1 <= columns <= tracks
                    self.assertIs(is_ladder((tracks, rows, columns, [])), due)

    def test_every_word_and_place(self):
        for tracks in range(1, 8):
            for k in range(-2, 10):
                for word in ("down", "up"):
                    self.assertIs(is_ladder((tracks, 1, tracks, [(word, k, (1, 2))])), 0 <= k <= tracks - 2)
                self.assertIs(is_ladder((tracks, tracks, 1, [("weigh", k, (0, 1))])), 0 <= k <= tracks - 1)

    def test_weights(self):
        for weight in ((0, 1), ONE, (1, 2), (7, 3), (FORTY, 1), (1, FORTY), (FORTY, FORTY - 1)):
            for word in ("down", "up", "weigh"):
                self.assertIs(is_ladder((2, 2, 2, [(word, 0, weight)])), True)

    def test_how_many_steps(self):
        for many in (0, 1, 2, 399, 400):
            self.assertIs(is_ladder((1, 1, 1, [("weigh", 0, ONE)] * many)), True)
            self.assertIs(is_ladder((7, 7, 7, [("down", 5, ONE)] * many)), True)
        for many in (401, 402, 800):
            self.assertIs(is_ladder((1, 1, 1, [("weigh", 0, ONE)] * many)), False)
            self.assertIs(is_ladder((7, 7, 7, [("down", 5, ONE)] * many)), False)

    def test_a_wrong_step_at_the_very_end(self):
        steps = [("weigh", 0, ONE)] * 399
        self.assertIs(is_ladder((2, 2, 2, steps + [("down", 1, ONE)])), False)
        self.assertIs(is_ladder((2, 2, 2, steps + [("weigh", 0, (-1, 1))])), False)

    def test_no_ladders(self):
        for thing in no_ladders():
            self.assertIs(is_ladder(thing), False, repr(thing)[:100])

    def test_nothing_is_changed(self):
        for thing in no_ladders() + [ladder_of_ways(5)]:
            kept = copy.deepcopy(thing)
            is_ladder(thing)
            self.assertEqual(thing, kept)


class TestTableOf(unittest.TestCase):
    def told(self, ladder, due):
        kept = copy.deepcopy(ladder)
        answer = table_of(ladder)
        self.assertIs(is_table(answer), True)
        self.assertEqual(answer, due)
        self.assertEqual(ladder, kept)

    def test_without_steps(self):
        for tracks in range(1, 8):
            for rows in range(1, tracks + 1):
                for columns in range(1, tracks + 1):
                    due = ints([[int(i == j) for j in range(columns)] for i in range(rows)])
                    self.told((tracks, rows, columns, []), due)

    def test_one_step_of_every_word(self):
        self.told((2, 2, 2, [("down", 0, (2, 3))]), [[ONE, (2, 3)], [(0, 1), ONE]])
        self.told((2, 2, 2, [("up", 0, (2, 3))]), [[ONE, (0, 1)], [(2, 3), ONE]])
        self.told((2, 2, 2, [("weigh", 0, (2, 3))]), [[(2, 3), (0, 1)], [(0, 1), ONE]])
        self.told((2, 2, 2, [("weigh", 1, (0, 1))]), [[ONE, (0, 1)], [(0, 1), (0, 1)]])
        self.told((1, 1, 1, [("weigh", 0, (2, 3))] * 3), [[(8, 27)]])

    def test_steps_go_in_order(self):
        down, up = ("down", 0, ONE), ("up", 0, ONE)
        self.told((2, 2, 2, [down, up]), ints([[2, 1], [1, 1]]))
        self.told((2, 2, 2, [up, down]), ints([[1, 1], [1, 2]]))
        self.told((3, 3, 3, [("down", 0, ONE), ("down", 1, ONE)]), ints([[1, 1, 1], [0, 1, 1], [0, 0, 1]]))
        self.told((3, 3, 3, [("down", 1, ONE), ("down", 0, ONE)]), ints([[1, 1, 0], [0, 1, 1], [0, 0, 1]]))
        self.told((2, 1, 2, [("weigh", 0, (1, 2)), ("down", 0, (1, 3))]), [[(1, 2), (1, 6)]])
        self.told((2, 1, 2, [("down", 0, (1, 3)), ("weigh", 0, (1, 2))]), [[(1, 2), (1, 3)]])

    def test_against_the_sum_over_all_ways(self):
        chance = Random(31)
        for ladder in small_ladders(chance, 150, 14):
            self.told(ladder, reckon.ladder_table(ladder))

    def test_great_weights(self):
        chance = Random(32)
        for turn in range(30):
            ladder = chance_ladder(chance, 4, 3, 4, 12, GREAT, 0.05)
            self.told(ladder, reckon.ladder_table(ladder))

    def test_weights_of_nought(self):
        chance = Random(33)
        for turn in range(60):
            ladder = chance_ladder(chance, 5, 5, 5, 12, noughts=0.6)
            self.told(ladder, reckon.ladder_table(ladder))
        self.told((3, 3, 3, [("weigh", k, (0, 1)) for k in range(3)]), ints([[0] * 3] * 3))

    def test_numbers_that_cancel(self):
        steps = [("down", 0, (2, 3)), ("weigh", 1, (9, 4)), ("up", 0, (2, 3)), ("weigh", 0, (1, 2))]
        ladder = (2, 2, 2, steps * 3)
        self.told(ladder, reckon.ladder_table(ladder))

    def test_one_behind_the_other_is_the_product(self):
        chance = Random(34)
        for tracks in range(1, 8):
            one = chance_ladder(chance, tracks, tracks, tracks, 200)
            other = chance_ladder(chance, tracks, tracks, tracks, 200)
            both = (tracks, tracks, tracks, one[3] + other[3])
            self.told(both, product(table_of(one), table_of(other)))

    def test_four_hundred_steps_promptly(self):
        chance = Random(35)
        wide = tuple((chance.randint(1, 99), 97) for turn in range(20))
        for weights in ((ONE,), ((2, 1), (1, 3)), tuple(weight for weight in wide if weight[0] != 97), ((FORTY, 1),)):
            ladder = chance_ladder(chance, 7, 7, 7, 400, weights, 0)
            with Prompt(self):
                whole = table_of(ladder)
            halves = [table_of((7, 7, 7, ladder[3][:250])), table_of((7, 7, 7, ladder[3][250:]))]
            self.assertEqual(whole, reckon.multiplied(halves[0], halves[1]))
            self.assertEqual(table_of((7, 3, 5, ladder[3])), [row[:5] for row in whole[:3]])

    def test_no_ladder_is_refused(self):
        for thing in no_ladders():
            with self.assertRaises(NoLadder):
                table_of(thing)

    def test_the_answer_is_the_askers_own(self):
        ladder = ladder_of_ways(6)
        first, second = table_of(ladder), table_of(ladder)
        spoil(first)
        self.assertEqual(second, reckon.ladder_table(ladder))
        self.assertEqual(table_of(ladder), second)
        kept = copy.deepcopy(second)
        ladder[3].clear()
        self.assertEqual(second, kept)


class TestWays(unittest.TestCase):
    def told(self, ladder, i, j, due):
        kept = copy.deepcopy(ladder)
        answer = ways(ladder, i, j)
        self.assertEqual(answer, due)
        self.assertEqual(ladder, kept)

    def test_ordinary_ladders(self):
        ladder = (2, 2, 2, [("down", 0, (1, 2)), ("up", 0, (1, 3))])
        self.told(ladder, 0, 0, [[0, 0, 0], [0, 1, 0]])
        self.told(ladder, 0, 1, [[0, 1, 1]])
        self.told(ladder, 1, 0, [[1, 1, 0]])
        self.told(ladder, 1, 1, [[1, 1, 1]])
        self.assertEqual([weight_of(ladder, way) for way in ways(ladder, 0, 0)], [ONE, (1, 6)])

    def test_without_steps(self):
        for tracks in range(1, 8):
            ladder = (tracks, tracks, tracks, [])
            for i, j in each_end(ladder):
                self.told(ladder, i, j, [[i]] if i == j else [])

    def test_against_all_ways(self):
        chance = Random(36)
        for ladder in small_ladders(chance, 80, 12):
            for i, j in each_end(ladder):
                self.told(ladder, i, j, reckon.ways(ladder, i, j))

    def test_ways_of_weight_nought_are_left_out(self):
        nought = (0, 1)
        self.told((2, 2, 2, [("down", 0, nought)]), 0, 1, [])
        self.told((2, 2, 2, [("down", 0, nought)]), 0, 0, [[0, 0]])
        self.told((2, 2, 2, [("weigh", 0, nought)]), 0, 0, [])
        self.told((2, 2, 2, [("weigh", 0, nought)]), 1, 1, [[1, 1]])
        self.told((2, 2, 2, [("down", 0, ONE), ("weigh", 0, nought), ("up", 0, ONE)]), 0, 0, [[0, 1, 1, 0]])
        chance = Random(37)
        for turn in range(40):
            ladder = chance_ladder(chance, 4, 4, 4, 11, noughts=0.5)
            for i, j in each_end(ladder):
                self.told(ladder, i, j, reckon.ways(ladder, i, j))

    def test_the_sum_of_the_weights_is_the_tables_number(self):
        chance = Random(38)
        for turn in range(25):
            ladder = chance_ladder(chance, 5, 5, 4, 16)
            table = table_of(ladder)
            for i, j in each_end(ladder):
                weights = [weight_of(ladder, way) for way in ways(ladder, i, j)]
                self.assertTrue(all(is_fraction(weight) and weight[0] > 0 for weight in weights))
                total = sum(reckon.number(weight) for weight in weights)
                self.assertEqual(reckon.pair(total), table[i][j])

    def test_just_three_thousand_and_one_more(self):
        for many in (0, 1, 2, 7, 100, 2999, 3000):
            ladder = ladder_of_ways(many)
            self.assertLessEqual(len(ladder[3]), 100)
            answer = ways(ladder, 0, 1)
            self.assertEqual(len(answer), many)
            self.assertTrue(all(one < other for one, other in zip(answer, answer[1:])))
            self.assertTrue(all(len(way) == len(ladder[3]) + 1 for way in answer))
        for many in (3001, 3002, 6000, 10 ** 9):
            with self.assertRaises(TooMany):
                ways(ladder_of_ways(many), 0, 1)

    def test_more_begin_than_can_be_gone_through(self):
        for turns in (49, 199):
            lost = (7, 7, 7, to_and_fro(turns))
            early = (7, 7, 7, [("down", 0, ONE), ("down", 1, (1, 2))] + to_and_fro(turns))
            late = (7, 7, 7, [("down", 4, ONE)] + to_and_fro(turns) + [("down", 5, ONE)])
            stopped = (7, 7, 7, to_and_fro(turns) + [("weigh", 0, (0, 1)), ("weigh", 1, (0, 1))])
            with Prompt(self):
                self.assertEqual(ways(lost, 0, 6), [])
                self.assertEqual(ways(lost, 6, 0), [])
                self.assertEqual(ways(early, 0, 2), [[0, 1] + [2] * (2 * turns + 1)])
                self.assertEqual(ways(late, 4, 6), [[4] + [5] * (2 * turns + 1) + [6]])
                self.assertEqual(ways(stopped, 0, 0), [])
                self.assertEqual(ways(stopped, 0, 1), [])
                for ladder in (lost, early, late):
                    for i, j in ((0, 0), (0, 1), (1, 0), (1, 1)):
                        with self.assertRaises(TooMany):
                            ways(ladder, i, j)

    def test_no_ladder_is_refused_first(self):
        for thing in no_ladders():
            for i, j in ((0, 0), (None, 0), (0, "a"), (9, 9)):
                with self.assertRaises(NoLadder):
                    ways(thing, i, j)

    def test_no_such_row_or_column_is_refused_then(self):
        crowd = ladder_of_ways(10 ** 6)
        for ladder in ((5, 2, 3, []), (5, 2, 3, to_and_fro(50)), (3, 2, 3, crowd[3])):
            for thing in any_things() + [-1, 2, 3, 7, (0,), [0], True, False, "0", None, (0, 1)]:
                if thing in (0, 1) and not isinstance(thing, bool):
                    continue
                with self.assertRaisesRegex(NoChoice, "row"):
                    ways(ladder, thing, 0)
                with self.assertRaisesRegex(NoChoice, "row"):
                    ways(ladder, thing, 99)
            for thing in any_things() + [-1, 3, 4, 7, (0,), [0], True, False, "0", None, (0, 1)]:
                if thing in (0, 1) and not isinstance(thing, bool):
                    continue
                with self.assertRaisesRegex(NoChoice, "column"):
                    ways(ladder, 0, thing)
        with self.assertRaises(NoChoice):
            ways(crowd, 3, 1)
        with self.assertRaises(NoChoice):
            ways(crowd, 0, 3)

    def test_the_answer_is_the_askers_own(self):
        ladder = ladder_of_ways(5)
        due = reckon.ways(ladder, 0, 1)
        first, second = ways(ladder, 0, 1), ways(ladder, 0, 1)
        spoil(first)
        self.assertEqual(second, due)
        self.assertEqual(ways(ladder, 0, 1), due)
        for place, way in enumerate(second):
            way.append(place)
        self.assertEqual(second, [way + [place] for place, way in enumerate(due)])
        still = (2, 2, 2, [])
        ways(still, 0, 0)[0].append(9)
        self.assertEqual(ways(still, 0, 0), [[0]])


class TestWeightOf(unittest.TestCase):
    def test_every_way_of_some_ladders(self):
        chance = Random(39)
        for ladder in small_ladders(chance, 60, 12):
            kept = copy.deepcopy(ladder)
            for i in range(ladder[1]):
                for way, value in reckon.begun(ladder, i):
                    if value > 0:
                        handed = list(way)
                        self.assertEqual(weight_of(ladder, handed), reckon.pair(value))
                        self.assertEqual(handed, way)
            self.assertEqual(ladder, kept)

    def test_great_weights_and_many_steps(self):
        steps = [("weigh", 0, (FORTY, FORTY - 1)), ("weigh", 0, (FORTY - 1, FORTY))] * 200
        self.assertEqual(weight_of((1, 1, 1, steps), [0] * 401), ONE)
        steps = [("weigh", 0, (1, FORTY)), ("down", 0, (1, 2)), ("up", 0, (2, 3)), ("weigh", 1, (5, 1))] * 25
        due = reckon.pair(Fraction(1, 3 * FORTY) ** 25)
        self.assertEqual(weight_of((2, 2, 2, steps), [0] + [0, 1, 0, 0] * 25), due)

    def test_without_steps(self):
        self.assertEqual(weight_of((3, 3, 3, []), [2]), ONE)

    def test_no_ladder_is_refused(self):
        for thing in no_ladders():
            with self.assertRaises(NoLadder):
                weight_of(thing, [0])


if __name__ == "__main__":
    unittest.main()
