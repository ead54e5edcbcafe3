"""Deeds on works, drawn by chance, and what the document says must come of them."""

import copy
import re

from signsmooth.errors import NoChoice, NoDeed, NoFit, NoLadder, NoName, NoStep, NoWeight, TooMany
from signsmooth.works import Works
from tests import reckon
from tests.makers import SMALL, chance_ladder

WORDS = ("down", "up", "weigh")


def is_name(thing):
    return isinstance(thing, str) and re.fullmatch("[a-z]{1,8}", thing) is not None


def is_whole(thing):
    return type(thing) is int


def is_number(thing):
    return type(thing) is tuple and len(thing) == 2 and all(map(is_whole, thing)) and thing[1] > 0 and (
        reckon.pair(reckon.number(thing)) == thing)


def is_step(thing, tracks):
    if type(thing) is not tuple or len(thing) != 3 or not is_number(thing[2]) or thing[2][0] < 0:
        return False
    most = tracks - 1 if thing[0] == "weigh" else tracks - 2
    return thing[0] in WORDS and is_whole(thing[1]) and 0 <= thing[1] <= most


def is_choice(thing, many):
    return type(thing) is list and thing != [] and all(map(is_whole, thing)) and (
        thing == sorted(set(thing)) and 0 <= thing[0] and thing[-1] < many)


def is_ladder(thing):
    return type(thing) is tuple and len(thing) == 4 and type(thing[3]) is list and len(thing[3]) <= 400 and (
        all(map(is_whole, thing[:3])) and 1 <= thing[0] <= 7 and 1 <= thing[1] <= thing[0] >= thing[2] >= 1) and (
        all(is_step(step, thing[0]) for step in thing[3]))


class Book:
    """Works gone along with: each deed is done to them and, by the document's words, to copies of their ladders."""

    def __init__(self, test):
        self.test = test
        self.works = Works()
        self.kept = {}
        self.behind = []

    def refusal(self, deed, things):
        """The refusal that is due first, or None."""
        names = {"put": 1, "drop": 1, "join": 3, "turn": 2, "cut": 2, "weigh": 1, "add": 1, "take_out": 1, "back": 0}[deed]
        for k, name in enumerate(things[:names]):
            new = k == 0 and deed in ("put", "join", "turn", "cut")
            if not is_name(name) or (name in self.kept) is new:
                return NoName
        if deed == "put":
            return None if is_ladder(things[1]) else NoLadder
        if deed == "join":
            return NoFit if self.kept[things[1]][2] != self.kept[things[2]][1] else None
        if deed == "cut":
            ladder = self.kept[things[1]]
            return None if is_choice(things[2], ladder[1]) and is_choice(things[3], ladder[2]) else NoChoice
        if deed in ("weigh", "take_out"):
            if not is_whole(things[1]) or not 0 <= things[1] < len(self.kept[things[0]][3]):
                return NoStep
            return NoWeight if deed == "weigh" and not (is_number(things[2]) and things[2][0] >= 0) else None
        if deed == "add":
            if not is_step(things[1], self.kept[things[0]][0]):
                return NoStep
            return TooMany if len(self.kept[things[0]][3]) == 400 else None
        return NoDeed if deed == "back" and not self.behind else None

    def due_table(self, deed, things):
        """The table that must come of a deed by which any ladder of it may come."""
        if deed == "join":
            return reckon.multiplied(self.works.table(things[1]), self.works.table(things[2]))
        table = self.works.table(things[1])
        if deed == "turn":
            return [list(column) for column in zip(*table)]
        return [[table[i][j] for j in things[3]] for i in things[2]]

    def do(self, deed, *things):
        """One deed; True where it was done."""
        before = copy.deepcopy(things)
        refusal = self.refusal(deed, things)
        if refusal is not None:
            with self.test.assertRaises(refusal, msg=repr((deed, things))[:200]):
                getattr(self.works, deed)(*things)
            self.test.assertEqual(things, before)
            return False
        due = self.due_table(deed, things) if deed in ("join", "turn", "cut") else None
        self.test.assertIsNone(getattr(self.works, deed)(*things))
        self.test.assertEqual(things, before)
        self.follow(deed, things)
        if due is not None:
            self.test.assertEqual(self.works.table(things[0]), due)
        return True

    def follow(self, deed, things):
        if deed == "back":
            self.kept = self.behind.pop()
            return
        self.behind.append(copy.deepcopy(self.kept))
        if deed == "put":
            self.kept[things[0]] = copy.deepcopy(things[1])
        elif deed == "drop":
            del self.kept[things[0]]
        elif deed in ("join", "turn", "cut"):
            self.kept[things[0]] = copy.deepcopy(self.works.ladder(things[0]))
        else:
            steps = self.kept[things[0]][3]
            if deed == "weigh":
                steps[things[1]] = steps[things[1]][:2] + (things[2],)
            elif deed == "add":
                steps.append(things[1])
            else:
                del steps[things[1]]

    def look(self):
        """All that works are asked for, against works in which the same ladders are put anew."""
        anew = Works()
        for name, ladder in self.kept.items():
            anew.put(name, copy.deepcopy(ladder))
        self.test.assertEqual(self.works.names(), sorted(self.kept))
        for name, ladder in self.kept.items():
            told = self.works.ladder(name)
            self.test.assertEqual(told, ladder)
            self.test.assertLessEqual(len(told[3]), 400)
            self.test.assertEqual(self.works.table(name), anew.table(name))
            self.test.assertIs(self.works.strict(name), anew.strict(name))


NAMES = ("a", "b", "c", "none", "abcdefgh", "q")


def chance_name(chance):
    if chance.random() < 0.05:
        return chance.choice(("", "A", "abcdefghi", "a b", "a1", None, 3, ["a"], ("a",), True))
    return chance.choice(NAMES)


def chance_choice(chance, many):
    if chance.random() < 0.08:
        return chance.choice(([], [many], [0, 0], [1, 0], [-1], (0,), None, [True], "0"))
    return sorted(chance.sample(range(many), chance.randint(1, many)))


def chance_weight(chance):
    if chance.random() < 0.1:
        return chance.choice(((-1, 1), (2, 4), 1, None, [1, 1], "1", (1, 0), True))
    return chance.choice(SMALL + ((0, 1),))


def chance_deed(chance, book):
    """A deed and what is handed in with it, mostly such as is not refused."""
    deed = chance.choice(("put", "put", "drop", "join", "join", "turn", "cut", "cut", "weigh", "weigh", "add", "add",
                          "take_out", "back", "back"))
    name = chance_name(chance)
    if book.kept and deed in ("drop", "weigh", "add", "take_out") and chance.random() < 0.9:
        name = chance.choice(sorted(book.kept))
    free = [name for name in NAMES if name not in book.kept]
    if free and deed in ("put", "join", "turn", "cut") and chance.random() < 0.9:
        name = chance.choice(free)
    kept = book.kept.get(name, (3, 3, 3, [])) if is_name(name) else (3, 3, 3, [])
    if deed == "put":
        tracks = chance.randint(1, 4)
        ladder = chance_ladder(chance, tracks, chance.randint(1, tracks), chance.randint(1, tracks), chance.randint(0, 9))
        return deed, name, chance.choice((ladder,) * 15 + (ladder[:3], (1, 2, 1, []), None))
    if deed in ("drop", "back"):
        return (deed, name)[:2 if deed == "drop" else 1]
    if deed in ("weigh", "take_out"):
        at = chance.choice((chance.randint(-1, len(kept[3])), chance.randrange(len(kept[3]) or 1), None))
        return (deed, name, at, chance_weight(chance))[:4 if deed == "weigh" else 3]
    if deed == "add":
        step = (chance.choice(WORDS), chance.randint(0, kept[0] - 1), chance_weight(chance))
        return deed, name, step if chance.random() < 0.9 else chance.choice((None, list(step), step[:2], "up"))
    one, other = [chance.choice(sorted(book.kept)) if book.kept and chance.random() < 0.95 else chance_name(chance)
                  for turn in range(2)]
    if deed == "join":
        columns = book.kept[one][2] if is_name(one) and one in book.kept else None
        fitting = [fit for fit in sorted(book.kept) if book.kept[fit][1] == columns]
        return deed, name, one, chance.choice(fitting) if fitting and chance.random() < 0.8 else other
    if deed == "turn":
        return deed, name, one
    kept = book.kept.get(one, (3, 3, 3, [])) if is_name(one) else (3, 3, 3, [])
    return deed, name, one, chance_choice(chance, kept[1]), chance_choice(chance, kept[2])
