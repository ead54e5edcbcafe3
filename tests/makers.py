"""Tables and ladders for tests. Chance is seeded, so each run sees the same ones."""

from fractions import Fraction
from itertools import product
from math import comb
from time import perf_counter

from tests import reckon
from tests.things import any_things

# Slow machines are given much: what goes over all ways would take years.
PROMPT = 30

SMALL = ((1, 1), (1, 1), (2, 1), (3, 1), (1, 2), (2, 3), (5, 4))


def ints(rows):
    return [[(value, 1) for value in row] for row in rows]


def chance_table(chance, rows, columns, top=4, bottom=1):
    def one():
        return reckon.pair(Fraction(chance.randint(-top, top), chance.randint(1, bottom)))
    return [[one() for j in range(columns)] for i in range(rows)]


def chance_ladder(chance, tracks, rows, columns, many, weights=SMALL, noughts=0.1):
    steps = []
    for turn in range(many):
        word = chance.choice(("down", "up", "weigh") if tracks > 1 else ("weigh",))
        k = chance.randrange(tracks if word == "weigh" else tracks - 1)
        steps.append((word, k, (0, 1) if chance.random() < noughts else chance.choice(weights)))
    return (tracks, rows, columns, steps)


def pascal(rows, columns):
    """Strict, of whole numbers."""
    return ints([[comb(i + j, i) for j in range(columns)] for i in range(rows)])


def hilbert(rows, columns):
    """Strict, of fractions."""
    return [[(1, i + j + 1) for j in range(columns)] for i in range(rows)]


def powers(numbers, columns):
    """Strict where the numbers rise and are above 0."""
    return [[reckon.pair(Fraction(number) ** j) for j in range(columns)] for number in numbers]


def one_alone_below(many):
    """A table of which the determinant of all rows and columns is below 0, and no other one."""
    rows = [[comb(i + j, i) for j in range(many)] for i in range(many)]
    # The determinant of all is 1, and so is that without the last row and column.
    rows[-1][-1] -= Fraction(1001, 1000)
    return reckon.table(rows)


def within(table, rows, columns, i, j):
    """A table of noughts but for the one handed in, from row i and column j on: its determinants, and 0, are all."""
    found = [[(0, 1)] * columns for row in range(rows)]
    for k, row in enumerate(table):
        found[i + k][j:j + len(row)] = row
    return found


def weighed(chance, table, figures):
    """Each row and each column is multiplied by a number above 0 of so many figures: all signs stay."""
    def one():
        return Fraction(chance.randrange(10 ** (figures - 1), 10 ** figures),
                        chance.randrange(10 ** (figures - 1), 10 ** figures))
    columns = [one() for number in table[0]]
    return [[reckon.pair(reckon.number(entry) * factor * other) for entry, other in zip(row, columns)]
            for row, factor in [(row, one()) for row in table]]


def rows_of(length, values):
    """All rows of so many of these whole numbers."""
    return [[(value, 1) for value in values_of_row] for values_of_row in product(values, repeat=length)]


def chance_row(chance, length, top=5, bottom=3):
    return chance_table(chance, 1, length, top, bottom)[0]


def ladder_of_ways(many):
    """A ladder of three tracks on which just so many ways go from row 0 to column 1.

    Track 0 keeps one way. Track 1 is doubled by way of track 2, and takes one more from track 0 for each digit 1.
    """
    one = (1, 1)
    double = [("down", 1, one), ("up", 1, one), ("weigh", 2, (0, 1))]
    steps = []
    for digit in bin(many)[2:]:
        steps += double
        if digit == "1":
            steps.append(("down", 0, one))
    return (3, 3, 3, steps)


def beside(one, other):
    """Two ladders side by side, without a rung between."""
    moved = [(word, k + one[0], weight) for word, k, weight in other[3]]
    tracks = one[0] + other[0]
    return (tracks, tracks, tracks, one[3] + moved)


def to_and_fro(turns):
    return [("down", 0, (1, 1)), ("up", 0, (1, 2))] * turns


def no_ladders():
    """New things at each call: no ladders, some of them only just."""
    one = (1, 1)
    steps = [("down", 0, one), ("up", 1, (1, 2)), ("weigh", 2, (0, 1))]
    found = [
        [3, 3, 3, steps], (3, 3, 3), (3, 3, 3, steps, steps), (3, 3, 3, tuple(steps)), (3, 3, 3, None), (3, 3, 3, ""),
        (3, 3, 3, "down"), (3, 3, 3, 0), ((3, 3, 3), steps), ((3, 3, 3, steps),), [(3, 3, 3, steps)],
        (0, 0, 0, []), (0, 1, 1, []), (8, 1, 1, []), (8, 8, 8, []), (-1, 1, 1, []), (1, 0, 1, []), (1, 1, 0, []),
        (1, 2, 1, []), (1, 1, 2, []), (3, 4, 3, steps), (3, 3, 4, steps), (3, -1, 3, steps), (3, 3, -1, steps),
        (7, 8, 7, []), (7, 7, 8, []), (True, 1, 1, []), (1, True, 1, []), (1, 1, True, []), (1, False, 1, []),
        ("3", 3, 3, []), (3, "3", 3, []), (3, 3, "3", []), (None, 1, 1, []), (3, None, 3, []), (3, 3, None, []),
        ((3, 1), 3, 3, []), (3, (3, 1), 3, []), ([3], 3, 3, []), (3, 3, [3], []), (10 ** 39, 1, 1, []),
        (3, 3, 3, [("weigh", 0, one)] * 401), (7, 7, 7, [("down", 0, one)] * 401),
        (1, 1, 1, [("weigh", 0, one)] * 2999),
        (1, 1, 1, [("down", 0, one)]), (1, 1, 1, [("up", 0, one)]), (1, 1, 1, [("weigh", 1, one)]),
    ]
    wrong_steps = [
        ("down", 2, one), ("up", 2, one), ("weigh", 3, one), ("down", -1, one), ("up", -1, one), ("weigh", -1, one),
        ("down", 6, one), ("up", 10 ** 39, one), ("weigh", 7, one),
        ("left", 0, one), ("Down", 0, one), ("down ", 0, one), ("", 0, one), ("dow", 0, one), (None, 0, one),
        (0, 0, one), (True, 0, one), (["down"], 0, one), (("down",), 0, one), (("down", "up"), 0, one),
        ("down", True, one), ("up", False, one), ("weigh", True, one), ("down", "0", one), ("down", None, one),
        ("down", [0], one), ("weigh", (0, 1), one), ("weigh", (0,), one),
        ("down", 0, (-1, 1)), ("up", 0, (-1, 2)), ("weigh", 0, (-(10 ** 39), 1)), ("down", 0, (2, 2)),
        ("down", 0, (0, 2)), ("down", 0, (1, 0)), ("down", 0, (1, -1)), ("weigh", 0, 1), ("weigh", 0, 0),
        ("weigh", 0, True), ("weigh", 0, (True, 1)), ("weigh", 0, (1, True)), ("weigh", 0, [1, 1]), ("weigh", 0, None),
        ("weigh", 0, "1"), ("weigh", 0, (1,)), ("weigh", 0, (1, 1, 1)), ("weigh", 0, ()),
        ["down", 0, one], ("down", 0), ("down", 0, 1, 1), ("down", 0, one, one), (), [], "down", None, 0, True,
        ("down",), (("down", 0, one),), [("down", 0, one)],
    ]
    for step in wrong_steps:
        found += [(3, 3, 3, [step]), (3, 2, 1, steps + [step]), (3, 3, 3, [step] + steps)]
    return found + any_things()


class Prompt:
    """Counts the seconds of what is done within it."""

    def __init__(self, test):
        self.test = test

    def __enter__(self):
        self.start = perf_counter()

    def __exit__(self, kind, error, trace):
        if kind is None:
            self.test.assertLess(perf_counter() - self.start, PROMPT)
