import unittest
from fractions import Fraction
from random import Random

from signsmooth.errors import NoFraction
from signsmooth.fracs import (
    fraction, is_fraction, is_less, is_whole, product_of, quotient_of, rest_of, sum_of,
)
from tests.things import FORTY, TWO_HUNDRED, any_things, nested

GREATEST = 10 ** 40 - 1


def as_tuple(number):
    return (number.numerator, number.denominator)


def as_number(pair):
    return Fraction(pair[0], pair[1])


def small_numbers():
    found = {Fraction(top, bottom) for top in range(-6, 7) for bottom in range(1, 7)}
    return [as_tuple(number) for number in sorted(found)]


def great_numbers():
    chance = Random(4)
    pairs = [(0, 1), (1, 1), (-1, 1), (GREATEST, 1), (-GREATEST, 1), (1, GREATEST), (-1, GREATEST), (7, 10 ** 39)]
    pairs += [(GREATEST, GREATEST - 1), (GREATEST - 1, GREATEST), (-GREATEST, GREATEST - 1)]
    while len(pairs) < 40:
        top = chance.randrange(-GREATEST, GREATEST)
        pairs.append(as_tuple(Fraction(top, chance.randrange(10 ** 39, GREATEST))))
    return pairs


class Told(unittest.TestCase):
    def is_told(self, answer, number):
        self.assertIsInstance(answer, tuple)
        self.assertEqual(len(answer), 2)
        for part in answer:
            self.assertIs(type(part), int)
        self.assertEqual(answer, as_tuple(number))
        self.assertIs(is_fraction(answer), True)


class TestIsWhole(unittest.TestCase):
    def test_whole_numbers(self):
        for number in (0, 1, -1, 2, -7, FORTY, -FORTY, TWO_HUNDRED, 10 ** 5000):
            self.assertIs(is_whole(number), True)

    def test_truths_are_none(self):
        self.assertIs(is_whole(True), False)
        self.assertIs(is_whole(False), False)

    def test_other_things_are_none(self):
        for thing in (None, "", "0", "12", [], [0], [1, 2], (), (1,), (1, 2), [[1]], ((1, 2), 3), nested(1, 10)):
            self.assertIs(is_whole(thing), False)

    def test_any_thing(self):
        for thing in any_things():
            self.assertIs(is_whole(thing), type(thing) is int)


class TestIsFraction(unittest.TestCase):
    def test_fractions(self):
        for thing in small_numbers() + great_numbers() + [(TWO_HUNDRED, 1), (1, TWO_HUNDRED)]:
            self.assertIs(is_fraction(thing), True, thing)

    def test_nought_is_written_in_one_way(self):
        self.assertIs(is_fraction((0, 1)), True)
        for bottom in (-2, -1, 0, 2, 3, FORTY):
            self.assertIs(is_fraction((0, bottom)), False)

    def test_a_bottom_of_nought_or_below(self):
        for thing in ((1, 0), (-1, 0), (FORTY, 0), (1, -1), (1, -2), (-3, -2), (3, -FORTY)):
            self.assertIs(is_fraction(thing), False)

    def test_not_in_lowest_terms(self):
        for thing in ((2, 2), (2, 4), (-2, 4), (6, 9), (-6, 9), (3 * FORTY, 3), (3, 3 * FORTY), (FORTY, FORTY)):
            self.assertIs(is_fraction(thing), False)

    def test_every_small_pair(self):
        for top in range(-12, 13):
            for bottom in range(-12, 13):
                due = bottom > 0 and as_tuple(Fraction(top, bottom)) == (top, bottom)
                self.assertIs(is_fraction((top, bottom)), due, (top, bottom))

    def test_of_another_length(self):
        for thing in ((), (1,), (1, 2, 3), (1, 2, 1), (1, 1, 1, 1)):
            self.assertIs(is_fraction(thing), False)

    def test_truths_as_top_or_bottom(self):
        for thing in ((True, 1), (False, 1), (1, True), (0, True), (True, True), (1, False), (False, True), (True, 2)):
            self.assertIs(is_fraction(thing), False)

    def test_other_things_within(self):
        for thing in ((None, 1), (1, None), ("1", 1), (1, "2"), ([1], 2), (1, [2]), ((1, 2), 1), (1, (1, 2)), ("", "")):
            self.assertIs(is_fraction(thing), False)

    def test_a_list_or_another_thing(self):
        for thing in ([1, 2], [0, 1], 1, 0, "12", "1/2", None, True, False, ((1, 2),), [(1, 2)]):
            self.assertIs(is_fraction(thing), False)

    def test_any_thing(self):
        for thing in any_things():
            self.assertIs(is_fraction(thing), False)


class TestFraction(Told):
    def test_every_small_pair(self):
        for top in range(-30, 31):
            for bottom in range(-30, 31):
                if bottom != 0:
                    self.is_told(fraction(top, bottom), Fraction(top, bottom))

    def test_of_one_whole_number(self):
        for top in (0, 1, -1, 12, -12, FORTY, -FORTY, GREATEST):
            self.is_told(fraction(top), Fraction(top))
            self.is_told(fraction(top, 1), Fraction(top))
            self.is_told(fraction(top, -1), Fraction(-top))

    def test_nought(self):
        for bottom in (1, -1, 2, -30, FORTY, -FORTY):
            self.assertEqual(fraction(0, bottom), (0, 1))

    def test_forty_figures(self):
        chance = Random(1)
        for turn in range(200):
            top = chance.randrange(-GREATEST, GREATEST + 1)
            bottom = chance.choice((-1, 1)) * chance.randrange(1, GREATEST + 1)
            self.is_told(fraction(top, bottom), Fraction(top, bottom))

    def test_multiples_of_one_another(self):
        for one in (1, 2, 6, FORTY, GREATEST, 10 ** 20):
            for many in (1, 2, 3, 10, 10 ** 19, FORTY):
                for sign in (1, -1):
                    self.is_told(fraction(sign * one * many, one), Fraction(sign * many))
                    self.is_told(fraction(one, sign * one * many), Fraction(1, sign * many))
                    self.is_told(fraction(one * many * 5, sign * one * many * 7), Fraction(5, sign * 7))

    def test_a_bottom_of_nought_is_refused(self):
        for top in (0, 1, -1, FORTY, -FORTY):
            with self.assertRaises(NoFraction):
                fraction(top, 0)

    def test_what_is_no_whole_number_is_refused(self):
        for top, bottom in ((True, 1), (1, True), (1, False), (None, 1), ("1", 2), (1, "2"), ([1], 2), (1, (2,))):
            with self.assertRaises(NoFraction):
                fraction(top, bottom)


class TestReckoning(Told):
    def reckon(self, one, other):
        left = as_number(one)
        right = as_number(other)
        self.is_told(sum_of(one, other), left + right)
        self.is_told(rest_of(one, other), left - right)
        self.is_told(product_of(one, other), left * right)
        self.assertIs(is_less(one, other), left < right)
        if right == 0:
            with self.assertRaises(NoFraction):
                quotient_of(one, other)
        else:
            self.is_told(quotient_of(one, other), left / right)

    def test_small_numbers(self):
        numbers = small_numbers()
        for one in numbers:
            for other in numbers:
                self.reckon(one, other)

    def test_forty_figures(self):
        numbers = great_numbers()
        for one in numbers:
            for other in numbers:
                self.reckon(one, other)

    def test_small_and_great(self):
        for one in small_numbers():
            for other in great_numbers():
                self.reckon(one, other)
                self.reckon(other, one)

    def test_a_quotient_by_nought_is_refused(self):
        for one in ((0, 1), (1, 1), (-1, 2), (FORTY, 1), (1, FORTY)):
            with self.assertRaises(NoFraction):
                quotient_of(one, (0, 1))

    def test_a_number_is_not_less_than_itself(self):
        for number in small_numbers() + great_numbers():
            self.assertIs(is_less(number, number), False)

    def test_numbers_close_together(self):
        for n in (2, 3, 10, 10 ** 19, FORTY, GREATEST - 1):
            for sign in (1, -1):
                one = (sign * (n - 1), n)
                other = (sign * n, n + 1)
                self.assertIs(is_less(one, other), sign == 1)
                self.assertIs(is_less(other, one), sign == -1)

    def test_answers_handed_in_again_grow(self):
        number = (GREATEST, GREATEST - 1)
        due = as_number(number)
        total = number
        whole = due
        for turn in range(40):
            number = product_of(number, (GREATEST - 2, GREATEST))
            due = due * Fraction(GREATEST - 2, GREATEST)
            total = sum_of(total, number)
            whole = whole + due
        self.is_told(number, due)
        self.is_told(total, whole)
        self.assertGreater(total[1], 10 ** 1500)

    def test_numbers_of_four_thousand_figures(self):
        one = (10 ** 3999 + 1, 10 ** 3998)
        self.assertIs(is_fraction(one), True)
        self.is_told(rest_of(one, one), Fraction(0))
        self.is_told(quotient_of(one, one), Fraction(1))
        self.is_told(sum_of(one, (-1, 10 ** 3998)), Fraction(10))


if __name__ == "__main__":
    unittest.main()
