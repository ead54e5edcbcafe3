"""Slow and plain answers, by the document's own sums, for tests to hold the program's answers against."""

from fractions import Fraction
from itertools import combinations, permutations, product


def number(pair):
    return Fraction(pair[0], pair[1])


def pair(value):
    value = Fraction(value)
    return (value.numerator, value.denominator)


def numbers(table):
    """The rows of a table as Python's fractions, or as ints where all are whole: these are quicker."""
    if all(entry[1] == 1 for row in table for entry in row):
        return [[entry[0] for entry in row] for row in table]
    return [[number(entry) for entry in row] for row in table]


def table(rows):
    return [[pair(value) for value in row] for row in rows]


def unit(many):
    return table([[int(i == j) for j in range(many)] for i in range(many)])


def orders(many):
    """All orders of so many columns, each with its sign."""
    found = []
    for order in permutations(range(many)):
        wrong = sum(one > other for one, other in combinations(order, 2))
        found.append((order, -1 if wrong % 2 else 1))
    return found


ORDERS = [orders(many) for many in range(8)]


def by_orders(rows):
    """The determinant as the sum over all orders of the columns."""
    total = 0
    for order, sign in ORDERS[len(rows)]:
        value = sign
        for row, column in zip(rows, order):
            value *= row[column]
            if value == 0:
                break
        total += value
    return total


def choices(many, size):
    return [list(choice) for choice in combinations(range(many), size)]


def pairs_of_choices(rows, columns):
    """All choices of rows and of as many columns: by few rows first, then by rows, then by columns."""
    for size in range(1, min(rows, columns) + 1):
        for some in choices(rows, size):
            for others in choices(columns, size):
                yield some, others


def all_minors(a_table):
    rows = numbers(a_table)
    for some, others in pairs_of_choices(len(rows), len(rows[0])):
        yield some, others, by_orders([[rows[i][j] for j in others] for i in some])


def first_below(a_table):
    for some, others, value in all_minors(a_table):
        if value < 0:
            return (some, others)
    return None


def is_good(a_table):
    return all(value >= 0 for some, others, value in all_minors(a_table))


def is_strict(a_table):
    return all(value > 0 for some, others, value in all_minors(a_table))


def multiplied(one, other):
    left, right = numbers(one), numbers(other)
    return table([[sum(row[k] * right[k][j] for k in range(len(right))) for j in range(len(right[0]))] for row in left])


def begun(ladder, i):
    """All ways that begin on track i, each with its weight."""
    found = [([i], Fraction(1))]
    for word, k, weight in ladder[3]:
        longer = []
        for way, value in found:
            track = way[-1]
            if word == "weigh":
                longer.append((way + [track], value * number(weight) if track == k else value))
                continue
            longer.append((way + [track], value))
            if word == "down" and track == k:
                longer.append((way + [k + 1], value * number(weight)))
            if word == "up" and track == k + 1:
                longer.append((way + [k], value * number(weight)))
        found = longer
    return found


def ladder_table(ladder):
    rows = []
    for i in range(ladder[1]):
        row = [Fraction(0)] * ladder[0]
        for way, value in begun(ladder, i):
            row[way[-1]] += value
        rows.append(row[:ladder[2]])
    return table(rows)


def ways(ladder, i, j):
    return sorted(way for way, value in begun(ladder, i) if value > 0 and way[-1] == j)


def meet(one, other):
    return any(track == another for track, another in zip(one, other))


def families(ladder, rows, columns):
    each = [ways(ladder, i, j) for i, j in zip(rows, columns)]
    return sorted(list(some) for some in product(*each) if not any(meet(a, b) for a, b in combinations(some, 2)))


def signs(row):
    return [(value > 0) - (value < 0) for value in (number(entry) for entry in row)]


def changes(some_signs):
    """How often one of two neighbours is above and one below 0, when all noughts are left out."""
    left = [sign for sign in some_signs if sign]
    return sum(one != other for one, other in zip(left, left[1:]))


def least_changes(row):
    return changes(signs(row))


def most_changes(row):
    """By all ways to take each nought for a number above or below 0."""
    return max(changes(taken) for taken in product(*[(sign,) if sign else (1, -1) for sign in signs(row)]))


def first_sign(row):
    return ([sign for sign in signs(row) if sign] + [0])[0]


def behind(a_table, row):
    return [pair(sum(number(one) * number(other) for one, other in zip(some, row, strict=True))) for some in a_table]


def tells_against(a_table, row):
    after = behind(a_table, row)
    if least_changes(after) != least_changes(row):
        return least_changes(after) > least_changes(row)
    return any(entry[0] for entry in after) and first_sign(after) != first_sign(row)


def gone_over(a_table, places, sign):
    rows = [[number(entry) for entry in row] for row in a_table]
    for j, b in places:
        u = rows[j][b]
        if u != 0:
            for i in range(j):
                for a in range(b):
                    rows[i][a] += sign * rows[i][b] * rows[j][a] / u
    return table(rows)


def thinned(a_table):
    rows, columns = len(a_table), len(a_table[0])
    return gone_over(a_table, [(j, b) for j in range(rows - 1, -1, -1) for b in range(columns - 1, -1, -1)], -1)


def thickened(a_table):
    return gone_over(a_table, [(j, b) for j in range(len(a_table)) for b in range(len(a_table[0]))], 1)


def is_staircase(marks):
    """Of marks: each 0 has nothing but 0 to its left, or nothing but 0 above it."""
    return all(mark == 1 or not any(marks[i][:j]) or not any(row[j] for row in marks[:i])
               for i, row in enumerate(marks) for j, mark in enumerate(row))


def staircases(rows, columns):
    every = ([list(marks[i * columns:(i + 1) * columns]) for i in range(rows)]
             for marks in product((0, 1), repeat=rows * columns))
    return [marks for marks in every if is_staircase(marks)]
