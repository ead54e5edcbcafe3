"""Ladders: tracks with rungs between neighbours, the ways over their steps, and the tables that the ways make."""

from signsmooth.errors import NoChoice, NoLadder, TooMany
from signsmooth.fracs import ONE, common_divisor, fraction, is_between, is_fraction, product_of, shared_divisor
from signsmooth.tables import MOST, choices_of, columns_of

MOST_STEPS = 400
MOST_LISTED = 3000


def is_weight(thing):
    return is_fraction(thing) and thing[0] >= 0


def is_step(thing, tracks):
    if not isinstance(thing, tuple) or len(thing) != 3 or not is_weight(thing[2]):
        return False
    if thing[0] == "weigh":
        return is_between(thing[1], 0, tracks - 1)
    return thing[0] in ("down", "up") and is_between(thing[1], 0, tracks - 2)


def is_ladder(thing):
    if not isinstance(thing, tuple) or len(thing) != 4 or not is_between(thing[0], 1, MOST):
        return False
    if not is_between(thing[1], 1, thing[0]) or not is_between(thing[2], 1, thing[0]):
        return False
    if not isinstance(thing[3], list) or len(thing[3]) > MOST_STEPS:
        return False
    return all([is_step(step, thing[0]) for step in thing[3]])


def look_ladder(thing):
    if not is_ladder(thing):
        raise NoLadder("no ladder: tracks, rows, columns and a list of at most 400 steps")


# A rung is gone one way alone: down to the track of the greater number, up to that of the lesser.
def rung_start(step):
    return step[1] if step[0] == "down" else step[1] + 1


def rung_end(step):
    return step[1] + 1 if step[0] == "down" else step[1]


def turned_step(step):
    if step[0] == "weigh":
        return step
    return ("up" if step[0] == "down" else "down", step[1], step[2])


# The sums on a track, one for each row, are kept as whole tops over one bottom that shares no divisor with them all:
# so one step looks for few divisors, and the numbers stay as short as they can be.
def table_of(ladder):
    look_ladder(ladder)
    tracks = [first_sums(track, ladder[1]) for track in range(ladder[0])]
    for step in ladder[3]:
        if step[0] == "weigh":
            tracks[step[1]] = weighed_sums(tracks[step[1]], step[2])
        else:
            carried = weighed_sums(tracks[rung_start(step)], step[2])
            tracks[rung_end(step)] = added_sums(tracks[rung_end(step)], carried)
    return columns_of([told_sums(sums) for sums in tracks[:ladder[2]]])


def first_sums(track, rows):
    return ([1 if i == track else 0 for i in range(rows)], 1)


def told_sums(sums):
    return [fraction(top, sums[1]) for top in sums[0]]


def weighed_sums(sums, weight):
    above = common_divisor(weight[0], sums[1])
    below = shared_divisor(weight[1], sums[0])
    factor = weight[0] // above
    return ([top // below * factor for top in sums[0]], sums[1] // above * (weight[1] // below))


def added_sums(one, other):
    shared = common_divisor(one[1], other[1])
    one_factor = other[1] // shared
    other_factor = one[1] // shared
    tops = [top * one_factor + more * other_factor for top, more in zip(one[0], other[0])]
    divisor = shared_divisor(shared, tops)
    return ([top // divisor for top in tops], other_factor * (other[1] // divisor))


# Ways that go side by side are on places: a rising tuple of tracks, as no way can pass another one without meeting it.
# The answer is in the order of tuples.
def next_places(step, places):
    stopped = step[2][0] == 0
    if step[0] == "weigh":
        return [] if stopped and step[1] in places else [places]
    start = rung_start(step)
    end = rung_end(step)
    if stopped or start not in places or end in places:
        return [places]
    return sorted([places, tuple([end if track == start else track for track in places])])


# For each step, and behind the last: from which places how many go on to the ends. Counted from the end, so that
# listing never begins what comes to nothing.
def counts_ahead(ladder, ends):
    counts = [{ends: 1}]
    all_places = choices_of(ladder[0], len(ends))
    for step in reversed(ladder[3]):
        behind = counts[-1]
        ahead = {}
        for places in all_places:
            many = sum([behind.get(follower, 0) for follower in next_places(step, places)])
            if many > 0:
                ahead[places] = many
        counts.append(ahead)
    counts.reverse()
    return counts


# A trail is the list of the places at the beginning and behind each step.
def trails(ladder, starts, ends):
    counts = counts_ahead(ladder, ends)
    many = counts[0].get(starts, 0)
    if many > MOST_LISTED:
        raise TooMany("more than 3000 to be listed")
    found = [[starts]] if many > 0 else []
    for k, step in enumerate(ladder[3]):
        found = longer_trails(found, step, counts[k + 1])
    return found


def longer_trails(found, step, counts):
    longer = []
    for trail in found:
        for places in next_places(step, trail[-1]):
            if places in counts:
                longer.append(trail + [places])
    return longer


def way_on(trail, k):
    return [places[k] for places in trail]


def ways(ladder, i, j):
    look_ladder(ladder)
    if not is_between(i, 0, ladder[1] - 1):
        raise NoChoice("no such row")
    if not is_between(j, 0, ladder[2] - 1):
        raise NoChoice("no such column")
    return [way_on(trail, 0) for trail in trails(ladder, (i,), (j,))]


def weight_of(ladder, way):
    look_ladder(ladder)
    weight = ONE
    for k, step in enumerate(ladder[3]):
        if is_multiplied(step, way[k], way[k + 1]):
            weight = product_of(weight, step[2])
    return weight


def is_multiplied(step, ahead, behind):
    return ahead == step[1] if step[0] == "weigh" else ahead != behind
