"""Families of ways over a ladder, no two of which meet: listed and counted."""

from signsmooth.errors import NoSquare
from signsmooth.ladders import counts_ahead, look_ladder, trails, way_on
from signsmooth.tables import look_choices


def look_ends(ladder, rows, columns):
    look_ladder(ladder)
    look_choices(rows, columns, ladder[1], ladder[2])
    if len(rows) != len(columns):
        raise NoSquare("not as many rows as columns")


# Trails come in the order of their places side by side; families go by their first way, then by the next one.
def families(ladder, rows, columns):
    look_ends(ladder, rows, columns)
    return sorted([family_on(trail) for trail in trails(ladder, tuple(rows), tuple(columns))])


def family_on(trail):
    return [way_on(trail, k) for k in range(len(trail[0]))]


def families_counted(ladder, rows, columns):
    look_ends(ladder, rows, columns)
    return counts_ahead(ladder, tuple(columns))[0].get(tuple(rows), 0)
