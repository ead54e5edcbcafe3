"""Things of all kinds, for tests of what is told or refused of any thing."""

FORTY = 10 ** 39 + 7
TWO_HUNDRED = 10 ** 199 + 3


def nested(thing, depth):
    for level in range(depth):
        thing = [thing] if level % 2 else (thing,)
    return thing


def any_things():
    """New things at each call, none of them a fraction, a table or a choice."""
    return [
        None, True, False, 0, 1, -1, 7, FORTY, -FORTY,
        "", "a", "0", "12", "1/2", "(1, 2)", "[0]", " ~",
        (), [], ((),), [[]], ([],), [()], [[], []], [[[]]],
        (1,), (1, 2, 3), (0, 0), (1, 0), (2, 4), [1, None],
        [None], [True], [False], ["0"], [(1, 2)], [[1]], [[0, 1], [2, 3]],
        [[None]], [["1"]], [[True]], [[(1, 0)]], [[(2, 4)]], [[(True, 1)]],
        ([(1, 2)],), (((1, 2),),), [((1, 2),)],
        nested((1, 2), 9), nested([], 9), nested(None, 10), nested("a", 10),
        [None] * 2999, [[(1, 2)] * 8], [[(1, 2)]] * 8, [[(1, 2)] * 30] * 30,
        (None,) * 2999, "a" * 20000,
    ]
