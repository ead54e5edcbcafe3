"""Works: ladders kept by names, joined, turned, cut, changed, and deeds taken back."""

from signsmooth.apart import most_steps_apart, taken_apart
from signsmooth.determinants import is_strict
from signsmooth.errors import NoDeed, NoFit, NoName, NoStep, NoWeight, TooMany
from signsmooth.fracs import NOUGHT, ONE, is_between
from signsmooth.ladders import MOST_STEPS, is_step, is_weight, look_ladder, table_of, turned_step
from signsmooth.tables import look_choices

LETTERS = "abcdefghijklmnopqrstuvwxyz"
MOST_LETTERS = 8


def is_name(thing):
    if not isinstance(thing, str) or not 1 <= len(thing) <= MOST_LETTERS:
        return False
    return all([sign in LETTERS for sign in thing])


# A kept ladder's list of steps is never changed: a deed keeps another ladder in its place, and what stood there goes to
# the deeds, so that taking back puts the very one there again.
class Works:
    def __init__(self):
        self.kept = {}
        self.deeds = []

    def look_new(self, name):
        if not is_name(name) or name in self.kept:
            raise NoName("no new name")

    def look_kept(self, name):
        if not is_name(name) or name not in self.kept:
            raise NoName("no ladder stands by this name")

    def keep(self, name, ladder):
        self.deeds.append((name, self.kept.get(name)))
        self.kept[name] = ladder

    def put(self, name, ladder):
        self.look_new(name)
        look_ladder(ladder)
        self.keep(name, own(ladder))

    def drop(self, name):
        self.look_kept(name)
        self.deeds.append((name, self.kept.pop(name)))

    def join(self, new, one, other):
        self.look_new(new)
        self.look_kept(one)
        self.look_kept(other)
        if self.kept[one][2] != self.kept[other][1]:
            raise NoFit("the first has not as many columns as the second has rows")
        self.keep(new, joined(self.kept[one], self.kept[other]))

    def turn(self, new, one):
        self.look_new(new)
        self.look_kept(one)
        self.keep(new, turned_ladder(self.kept[one]))

    def cut(self, new, one, rows, columns):
        self.look_new(new)
        self.look_kept(one)
        look_choices(rows, columns, self.kept[one][1], self.kept[one][2])
        self.keep(new, cut_ladder(self.kept[one], rows, columns))

    def look_place(self, name, at):
        self.look_kept(name)
        if not is_between(at, 0, len(self.kept[name][3]) - 1):
            raise NoStep("the ladder has no step of this number")

    def weigh(self, name, at, weight):
        self.look_place(name, at)
        if not is_weight(weight):
            raise NoWeight("a weight is a fraction from 0 on")
        step = self.kept[name][3][at]
        self.change(name, at, [(step[0], step[1], weight)])

    def add(self, name, step):
        self.look_kept(name)
        if not is_step(step, self.kept[name][0]):
            raise NoStep("no step for this ladder's tracks")
        if len(self.kept[name][3]) == MOST_STEPS:
            raise TooMany("the ladder has 400 steps")
        self.change(name, MOST_STEPS, [step])

    def take_out(self, name, at):
        self.look_place(name, at)
        self.change(name, at, [])

    def change(self, name, at, fresh):
        steps = self.kept[name][3]
        self.keep(name, with_steps(self.kept[name], steps[:at] + fresh + steps[at + 1:]))

    def back(self):
        if len(self.deeds) == 0:
            raise NoDeed("nothing to take back")
        deed = self.deeds.pop()
        if deed[1] is None:
            self.kept.pop(deed[0])
        else:
            self.kept[deed[0]] = deed[1]

    def names(self):
        return sorted(self.kept)

    def ladder(self, name):
        self.look_kept(name)
        return own(self.kept[name])

    def table(self, name):
        self.look_kept(name)
        return table_of(self.kept[name])

    def strict(self, name):
        return is_strict(self.table(name))


def with_steps(ladder, steps):
    return (ladder[0], ladder[1], ladder[2], steps)


# Steps are tuples of what can't be changed: so a list of its own is enough.
def own(ladder):
    return with_steps(ladder, list(ladder[3]))


def joined(one, other):
    tracks = max(one[0], other[0])
    stops = [stop(track) for track in range(one[2], one[0])]
    return (tracks, one[1], other[2], fitted(tracks, one[3] + stops + other[3]))


# No way goes on along the track.
def stop(track):
    return ("weigh", track, NOUGHT)


def turned_ladder(ladder):
    return (ladder[0], ladder[2], ladder[1], [turned_step(step) for step in reversed(ladder[3])])


# Ahead of the steps each row's ways are led from the row's new track down to its old one, the last row first; behind
# them each column's are led up to its new track, the first column first. So no way is led over a track that is in use.
def cut_ladder(ladder, rows, columns):
    steps = []
    for k in range(len(rows) - 1, -1, -1):
        for track in range(k, rows[k]):
            steps.extend([("down", track, ONE), stop(track)])
    steps.extend(ladder[3])
    steps.extend([stop(track) for track in range(columns[-1]) if track not in columns])
    for k in range(len(columns)):
        for track in range(columns[k] - 1, k - 1, -1):
            steps.extend([("up", track, ONE), stop(track + 1)])
    return (ladder[0], len(rows), len(columns), fitted(ladder[0], steps))


# Where there are more steps than a ladder may have, they are parted, and each part is taken apart anew. There are as
# many parts as may be: the fewer steps a part has, the shorter are its numbers.
def fitted(tracks, steps):
    if len(steps) <= MOST_STEPS:
        return steps
    parts = MOST_STEPS // most_steps_apart(tracks)
    length = (len(steps) + parts - 1) // parts
    found = []
    for start in range(0, len(steps), length):
        found.extend(made_anew(tracks, steps[start:start + length]))
    return found


def made_anew(tracks, steps):
    return taken_apart(table_of((tracks, tracks, tracks, steps)))[1][3]
