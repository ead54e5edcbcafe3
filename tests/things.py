"""Things of all kinds, for tests of what is told or refused of any thing."""

FORTY = 10 ** 39 + 7
TWO_HUNDRED = 10 ** 199 + 3


def nested(thing, depth):
    for level in range(depth):
        thing = [thing] if level % 2 else (thing,)
    return thing


def any_things():
    """New things at each call, none of them a fraction, a table or a choice."""
    return [
        None, True, False, 0, 1, -1, 7, FORTY, -FORTY,
        "", "a", "0", "12", "1/2", "(1, 2)", "[0]", " ~",
        (), [], ((),), [[]], ([],), [()], [[], []], [[[]]],
        (1,), (1, 2, 3), (0, 0), (1, 0), (2, 4), [1, None],
        [None], [True], [False], ["0"], [(1, 2)], [[1]], [[0, 1], [2, 3]],
        [[None]], [["1"]], [[True]], [[(1, 0)]], [[(2, 4)]], [[(True, 1)]],
        ([(1, 2)],), (((1, 2),),), [((1, 2),)],
        nested((1, 2), 9), nested([], 9), nested(None, 10), nested("a", 10),
        [None] * 2999, [[(1, 2)] * 8], [[(1, 2)]] * 8, [[(1, 2)] * 30] * 30,
        (None,) * 2999, "a" * 20000,
    ]


def number_at(i, j):
    """Another fraction at each place, of either sign, some whole and one 0."""
    return (100 * i + j - 102, 1) if (i + j) % 2 else (2 * (10 * i + j) - 21, 2)


def table_of_size(rows, columns):
    return [[number_at(i, j) for j in range(columns)] for i in range(rows)]


def sizes():
    return [(rows, columns) for rows in range(1, 8) for columns in range(1, 8)]


def choices_of(many):
    """All choices of so many things."""
    return [[k for k in range(many) if bits >> k & 1] for bits in range(1, 1 << many)]


def no_tables():
    """New things at each call: no tables, some of them only just."""
    eight = table_of_size(7, 7) + [table_of_size(1, 7)[0]]
    found = [
        [], [[]], [[], []], [[(1, 1)], []], [[], [(1, 1)]],
        eight, [row + [(1, 1)] for row in table_of_size(7, 7)], [[(1, 1)]] * 8, [[(1, 1)] * 8],
        [[(1, 1), (2, 1)], [(1, 1)]], [[(1, 1)], [(1, 1), (2, 1)]], table_of_size(6, 7) + [[(1, 1)] * 6],
        ([(1, 1)],), [((1, 1),)], [[(1, 1)], ((1, 1),)], (((1, 1),),), tuple(table_of_size(2, 2)),
        [(1, 1)], [[(1, 1)], (1, 1)], [[(1, 1)], None], [[(1, 1)], "a"], [[(1, 1)], 1], [[(1, 1)], True], ["a"], "a",
        [[[(1, 1)]]], [[[1, 1]]], [[(1, 1), [1, 1]]], nested((1, 1), 9),
    ]
    for wrong in (1, 0, None, True, "1", "", (1,), (1, 2, 3), (1, 0), (1, -1), (2, 2), (0, 2), (True, 1), (1, True)):
        found.append([[wrong]])
        for i, j in ((0, 0), (2, 1), (3, 4)):
            table = table_of_size(4, 5)
            table[i][j] = wrong
            found.append(table)
    return found + any_things()


def no_choices(many):
    """New things at each call: no choices of so many things, some of them only just."""
    found = [
        [], (), (0,), (0, 1), [-1], [-1, 0], [many], [0, many], [many - 1, many], [10 ** 39],
        [0, 0], [many - 1, many - 1], [many - 1, 0, 0], [0, 0, many - 1],
        [True], [False], [0, True], [False, 1], ["0"], [0, "1"], ["a"], [None], [None, 0], [0, None], [[0]], [(0, 1)],
        [0, [1]], 0, 1, None, True, "0", "01", "", nested(0, 10), list(range(many + 1)), [0] * 2999,
    ]
    if many > 1:
        found += [[1, 0], list(range(many))[::-1], [0, 1, 0], [0, 1, 1], [1, 1]]
    return found


def no_rows():
    """New things at each call: no rows, some of them only just."""
    found = [
        [], [(1, 1)] * 8, [(0, 1)] * 8, ((1, 1),), ((1, 1), (2, 1)), (1, 1), [[(1, 1)]], [[(1, 1), (2, 1)]],
        [((1, 1),)], [[1, 1]], [(1, 1), [2, 1]], nested((1, 1), 9), "1", "1 2", 1, None, True,
    ]
    for wrong in (1, 0, None, True, False, "1", "", (), (1,), (1, 2, 3), (1, 0), (1, -1), (2, 2), (0, 2), (0, -1),
                  (True, 1), (1, True), (False, 1), ("1", 1), (1, None), [], [1, 1]):
        found += [[wrong], [wrong, (1, 1)], [(1, 1), (2, 1), wrong], [(0, 1)] * 6 + [wrong]]
    return found + [thing for thing in any_things() if thing != [(1, 2)]]


def no_staircases():
    """New things at each call: no staircases, some of them only just."""
    found = [
        [], [[]], [[], []], [[0], []], [[], [1]], [[0]] * 8, [[1]] * 8, [[0] * 8], [[1] * 8], [[1] * 8] * 8,
        [[1, 1], [1]], [[1], [1, 1]], [[0] * 7] * 6 + [[0] * 6], ([1],), [(1,)], ((1,),), [[1], (1,)], [1], [0, 1],
        [[[1]]], [[1], 1], [[1], None], [[1], "1"], ["1"], ["01"], "1", nested(1, 9),
        [[0, 1], [1, 0]], [[1, 1], [1, 0]], [[0, 0, 1], [0, 1, 0]], [[0, 1], [0, 0], [1, 0]], [[1, 1, 1], [1, 0, 1]],
        [[1, 1, 1], [1, 1, 0], [1, 1, 1]], [[1] * 7] * 6 + [[1] * 6 + [0]],
    ]
    for wrong in (2, -1, 10 ** 39, True, False, None, "0", "1", "", (), [], [0], (0, 1), (1, 1)):
        found += [[[wrong]], [[1, 1], [1, wrong]], [[wrong, 1], [1, 1]], [[0] * 7] * 6 + [[0] * 6 + [wrong]]]
    return found + [thing for thing in any_things() if thing != [[1]]]


def spoil(table):
    """Change each list of a table, and the table."""
    for row in table:
        row[0] = "spoilt"
        row.append("spoilt")
    table.append("spoilt")
