import copy
import unittest
from itertools import product
from random import Random

from signsmooth.errors import NoChoice, NoDeed, NoFit, NoLadder, NoName, NoStep, NoWeight, TooMany
from signsmooth.ladders import is_ladder, table_of
from signsmooth.tables import part_of, turned
from signsmooth.works import Works
from tests import reckon
from tests.deeds import Book, chance_deed
from tests.makers import Prompt, chance_ladder, no_ladders, to_and_fro
from tests.things import FORTY, any_things, choices_of, no_choices, sizes

ONE = (1, 1)
STEPS = [("down", 0, (1, 2)), ("up", 1, (2, 1)), ("weigh", 2, (1, 3)), ("down", 1, (5, 1))]
LADDER = (3, 3, 3, STEPS)
WIDE = (4, 2, 4, [("down", 0, ONE), ("down", 1, ONE), ("down", 2, (2, 3))])

NO_NAMES = ["", "A", "aB", "abcdefghi", "a b", " a", "a ", "a1", "1", "a_", "a\n", "\n", "\u00e9", "a-b", "~",
            "abcdefghijklmnopqrstuvwxyz", "a\t", 0, 1, True, None, ["a"], ("a",), [["a"]], {}, FORTY]
NO_WEIGHTS = [(-1, 1), (-1, FORTY), (2, 2), (0, 2), (1, 0), (1, -1), (True, 1), (1, True), (1,), (1, 1, 1), [1, 1], 1, 0,
              "1", None, True, (), [], ("1", 1), ((1, 1),)]


def works_with(**ladders):
    works = Works()
    for name, ladder in ladders.items():
        works.put(name, copy.deepcopy(ladder))
    return works


def no_steps(tracks):
    return [("down", tracks - 1, ONE), ("up", tracks - 1, ONE), ("weigh", tracks, ONE), ("down", -1, ONE), ("up", -1, ONE),
            ("weigh", -1, ONE), ("left", 0, ONE), ("Down", 0, ONE), (None, 0, ONE), (["down"], 0, ONE), ("down", True, ONE),
            ("down", "0", ONE), ("down", None, ONE), ("weigh", (0, 1), ONE), ["weigh", 0, ONE], ("weigh", 0),
            ("weigh", 0, ONE, ONE), (("weigh", 0, ONE),), "weigh 0 1"] + [("weigh", 0, wrong) for wrong in NO_WEIGHTS]


def no_places(many):
    return [-1, many, many + 1, -many, FORTY, -FORTY] + [
        thing for thing in any_things() if not isinstance(thing, int) or isinstance(thing, bool)]


class Asked(unittest.TestCase):
    def stands(self, works, name, ladder):
        self.assertEqual(works.ladder(name), ladder)
        table = reckon.ladder_table(ladder)
        self.assertEqual(works.table(name), table)
        self.assertIs(works.strict(name), reckon.is_strict(table))

    def refused(self, works, error, deed, *things):
        """What is refused changes nothing."""
        names = works.names()
        ladders = [works.ladder(name) for name in names]
        with self.assertRaises(error, msg=repr((deed, things))[:200]):
            getattr(works, deed)(*things)
        self.assertEqual(works.names(), names)
        self.assertEqual([works.ladder(name) for name in names], ladders)


class TestEachDeed(Asked):
    def test_put_and_drop(self):
        works = Works()
        self.assertEqual(works.names(), [])
        self.assertIsNone(works.put("b", LADDER))
        self.assertIsNone(works.put("abcdefgh", WIDE))
        self.assertIsNone(works.put("a", (1, 1, 1, [])))
        self.assertEqual(works.names(), ["a", "abcdefgh", "b"])
        self.stands(works, "b", LADDER)
        self.stands(works, "abcdefgh", WIDE)
        self.stands(works, "a", (1, 1, 1, []))
        self.assertIsNone(works.drop("b"))
        self.assertEqual(works.names(), ["a", "abcdefgh"])
        self.refused(works, NoName, "ladder", "b")
        works.put("b", WIDE)
        self.stands(works, "b", WIDE)

    def test_joined(self):
        works = works_with(a=LADDER, b=WIDE, c=(5, 4, 1, [("up", 0, ONE), ("up", 1, ONE), ("up", 2, (7, 2))]))
        works.join("ac", "a", "a")
        self.assertEqual(works.table("ac"), reckon.multiplied(works.table("a"), works.table("a")))
        works.join("bc", "b", "c")
        self.assertEqual(works.table("bc"), reckon.multiplied(works.table("b"), works.table("c")))
        self.assertEqual(works.names(), ["a", "ac", "b", "bc", "c"])
        self.stands(works, "a", LADDER)

    def test_joined_by_chance(self):
        chance = Random(121)
        for turn in range(200):
            tracks, others = chance.randint(1, 7), chance.randint(1, 7)
            between = chance.randint(1, min(tracks, others))
            one = chance_ladder(chance, tracks, chance.randint(1, tracks), between, chance.randint(0, 30))
            other = chance_ladder(chance, others, between, chance.randint(1, others), chance.randint(0, 30))
            works = works_with(one=one, other=other)
            works.join("new", "one", "other")
            self.assertTrue(is_ladder(works.ladder("new")))
            self.assertEqual(works.table("new"), reckon.multiplied(table_of(one), table_of(other)))
            self.assertEqual(works.ladder("new")[1:3], (one[1], other[2]))

    def test_joined_to_more_steps_than_a_ladder_has(self):
        chance = Random(122)
        for tracks, noughts in product(range(1, 8), (0, 0.02, 0.2)):
            for many, more in ((400, 400), (200, 201), (400, 1)):
                one = chance_ladder(chance, tracks, tracks, chance.randint(1, tracks), many, noughts=noughts)
                others = chance.choice((max(one[2], tracks - 1), tracks, 7))
                other = chance_ladder(chance, others, one[2], chance.randint(1, others), more, noughts=noughts)
                works = works_with(one=one, other=other)
                with Prompt(self):
                    works.join("new", "one", "other")
                    self.assertEqual(works.table("new"), reckon.multiplied(table_of(one), table_of(other)))
                told = works.ladder("new")
                self.assertTrue(is_ladder(told))
                self.assertEqual(told[1:3], (one[1], other[2]))

    def test_one_track_joined_to_more_steps_than_a_ladder_has(self):
        for many, more in ((400, 1), (400, 400), (1, 400), (399, 1), (399, 2), (399, 400), (201, 201)):
            one, other = [(1, 1, 1, [("weigh", 0, (2, 3))] * length) for length in (many, more)]
            works = works_with(one=one, other=other)
            works.join("new", "one", "other")
            self.assertTrue(is_ladder(works.ladder("new")))
            self.assertEqual(works.table("new"), [[(2 ** (many + more), 3 ** (many + more))]])

    def test_joined_time_and_again(self):
        works = works_with(a=(3, 3, 3, to_and_fro(4) + [("down", 1, (1, 3)), ("weigh", 2, (3, 4)), ("up", 1, ONE)]))
        table = works.table("a")
        for turn, new in enumerate("bcdefghi"):
            last = "abcdefgh"[turn]
            works.join(new, last, last)
            table = reckon.multiplied(table, table)
            self.assertEqual(works.table(new), table)
            self.assertTrue(is_ladder(works.ladder(new)))

    def test_forty_figures_joined(self):
        chance = Random(123)
        weights = ((FORTY, 1), (1, FORTY), (FORTY, FORTY - 1))
        one, other = chance_ladder(chance, 5, 4, 3, 30, weights), chance_ladder(chance, 6, 3, 6, 30, weights)
        works = works_with(one=one, other=other)
        works.join("new", "one", "other")
        self.assertEqual(works.table("new"), reckon.multiplied(table_of(one), table_of(other)))

    def test_turned(self):
        chance = Random(124)
        for turn in range(100):
            tracks = chance.randint(1, 7)
            ladder = chance_ladder(chance, tracks, chance.randint(1, tracks), chance.randint(1, tracks),
                                   chance.choice((0, 1, 5, 30, 400)))
            works = works_with(a=ladder)
            works.turn("b", "a")
            self.assertTrue(is_ladder(works.ladder("b")))
            self.assertEqual(works.table("b"), turned(table_of(ladder)))
            self.assertEqual(works.ladder("a"), ladder)

    def test_cut_by_every_choice(self):
        for ladder in (LADDER, WIDE, (4, 3, 4, STEPS + WIDE[3] + [("up", k, ONE) for k in (2, 1, 0)])):
            works = works_with(a=ladder)
            for rows, columns in product(choices_of(ladder[1]), choices_of(ladder[2])):
                works.cut("b", "a", rows, columns)
                self.assertTrue(is_ladder(works.ladder("b")))
                self.assertEqual(works.table("b"), part_of(table_of(ladder), rows, columns))
                self.assertEqual(works.ladder("b")[1:3], (len(rows), len(columns)))
                works.back()
            self.stands(works, "a", ladder)

    def test_cut_by_chance(self):
        chance = Random(125)
        for turn in range(150):
            tracks = chance.randint(1, 7)
            ladder = chance_ladder(chance, tracks, chance.randint(1, tracks), chance.randint(1, tracks),
                                   chance.choice((0, 10, 60, 345, 360, 399, 400)))
            works = works_with(a=ladder)
            rows = sorted(chance.sample(range(ladder[1]), chance.randint(1, ladder[1])))
            columns = sorted(chance.sample(range(ladder[2]), chance.randint(1, ladder[2])))
            works.cut("b", "a", rows, columns)
            self.assertTrue(is_ladder(works.ladder("b")))
            self.assertEqual(works.table("b"), part_of(table_of(ladder), rows, columns))

    def test_cut_of_long_ladders_far_down(self):
        chance = Random(126)
        for rows, columns in (([3, 4, 5, 6], [3, 4, 5, 6]), ([6], [6]), ([4, 5, 6], [0]), ([0], [3, 5, 6])):
            ladder = chance_ladder(chance, 7, 7, 7, 400, noughts=0.01)
            works = works_with(a=ladder)
            works.cut("b", "a", rows, columns)
            self.assertTrue(is_ladder(works.ladder("b")))
            self.assertEqual(works.table("b"), part_of(table_of(ladder), rows, columns))

    def test_a_weight_changed(self):
        for at in range(4):
            for weight in (ONE, (0, 1), (7, 3), (FORTY, 1), (1, FORTY)):
                works = works_with(a=LADDER)
                self.assertIsNone(works.weigh("a", at, weight))
                due = list(STEPS)
                due[at] = due[at][:2] + (weight,)
                self.stands(works, "a", (3, 3, 3, due))

    def test_a_step_put_behind(self):
        works = works_with(a=LADDER)
        steps = list(STEPS)
        for step in (("weigh", 2, (0, 1)), ("up", 0, (1, 7)), ("down", 1, ONE)):
            self.assertIsNone(works.add("a", step))
            steps.append(step)
            self.stands(works, "a", (3, 3, 3, steps))

    def test_a_step_taken_out(self):
        for at in range(4):
            works = works_with(a=LADDER)
            self.assertIsNone(works.take_out("a", at))
            self.stands(works, "a", (3, 3, 3, STEPS[:at] + STEPS[at + 1:]))
        for turn in range(3):
            works.take_out("a", 0)
        self.stands(works, "a", (3, 3, 3, []))
        self.refused(works, NoStep, "take_out", "a", 0)

    def test_the_four_hundredth_step(self):
        works = works_with(a=(2, 2, 2, to_and_fro(199) + [("weigh", 0, ONE)]))
        works.add("a", ("weigh", 1, ONE))
        self.assertEqual(len(works.ladder("a")[3]), 400)
        self.refused(works, TooMany, "add", "a", ("weigh", 1, ONE))
        works.weigh("a", 399, (2, 1))
        works.take_out("a", 0)
        works.add("a", ("weigh", 1, (3, 1)))
        self.assertEqual(works.ladder("a")[3][-2:], [("weigh", 1, (2, 1)), ("weigh", 1, (3, 1))])

    def test_strict_or_not(self):
        works = works_with(a=(2, 2, 2, [("down", 0, ONE), ("up", 0, ONE)]), b=(2, 2, 2, []))
        self.assertIs(works.strict("a"), True)
        self.assertIs(works.strict("b"), False)
        works.weigh("a", 0, (0, 1))
        self.assertIs(works.strict("a"), False)
        works.back()
        self.assertIs(works.strict("a"), True)


class TestBack(Asked):
    def test_each_deed_is_taken_back(self):
        works = works_with(a=LADDER, b=WIDE)
        for deed in (("put", "c", LADDER), ("drop", "a"), ("join", "c", "a", "a"), ("turn", "c", "b"),
                     ("cut", "c", "b", [1], [0, 3]), ("weigh", "a", 1, (0, 1)), ("add", "b", ("up", 0, ONE)),
                     ("take_out", "a", 3)):
            getattr(works, deed[0])(*deed[1:])
            self.assertIsNone(works.back())
            self.assertEqual(works.names(), ["a", "b"])
            self.stands(works, "a", LADDER)
            self.stands(works, "b", WIDE)

    def test_nothing_to_take_back(self):
        works = Works()
        self.refused(works, NoDeed, "back")
        works.put("a", LADDER)
        works.back()
        self.refused(works, NoDeed, "back")
        self.assertEqual(works.names(), [])
        works.put("a", WIDE)
        self.stands(works, "a", WIDE)

    def test_to_take_back_is_no_deed(self):
        works = works_with(a=LADDER)
        works.weigh("a", 0, (9, 1))
        works.weigh("a", 0, (8, 1))
        works.back()
        self.assertEqual(works.ladder("a")[3][0], ("down", 0, (9, 1)))
        works.back()
        self.stands(works, "a", LADDER)
        works.back()
        self.refused(works, NoDeed, "back")

    def test_what_is_refused_or_asked_is_no_deed(self):
        works = works_with(a=LADDER)
        for deed, things, error in (("put", ("a", LADDER), NoName), ("drop", ("b",), NoName), ("add", ("a", None), NoStep),
                                    ("join", ("a", "a", "a"), NoName), ("weigh", ("a", 0, None), NoWeight)):
            self.refused(works, error, deed, *things)
        works.table("a")
        works.strict("a")
        works.back()
        self.assertEqual(works.names(), [])
        self.refused(works, NoDeed, "back")

    def test_a_made_ladder_is_the_very_one(self):
        works = works_with(a=LADDER, b=WIDE)
        works.join("j", "a", "a")
        works.turn("t", "b")
        works.cut("c", "b", [1], [1, 3])
        told = {name: works.ladder(name) for name in "jtc"}
        for name in "jtc":
            works.add(name, ("weigh", 0, (5, 1)))
            works.drop(name)
        works.drop("a")
        works.put("a", WIDE)
        for turn in range(8):
            works.back()
        self.assertEqual({name: works.ladder(name) for name in "jtc"}, told)
        self.stands(works, "a", LADDER)

    def test_other_deeds_amid(self):
        works = works_with(a=LADDER)
        works.add("a", ("weigh", 0, (2, 1)))
        works.drop("a")
        works.put("a", WIDE)
        works.take_out("a", 0)
        works.back()
        works.put("b", LADDER)
        works.back()
        works.back()
        self.assertEqual(works.names(), [])
        works.back()
        self.stands(works, "a", (3, 3, 3, STEPS + [("weigh", 0, (2, 1))]))

    def test_many_deeds_taken_back_one_by_one(self):
        chance = Random(127)
        for turn in range(6):
            book = Book(self)
            for deed in range(60):
                book.do(*chance_deed(chance, book))
            while book.behind:
                book.do("back")
                self.assertEqual(book.works.names(), sorted(book.kept))
                for name in book.kept:
                    self.assertEqual(book.works.ladder(name), book.kept[name])
            book.do("back")
            self.assertEqual(book.works.names(), [])


class TestRowsOfDeeds(unittest.TestCase):
    def test_deeds_by_chance(self):
        chance = Random(128)
        done = refused = 0
        for turn in range(12):
            book = Book(self)
            for deed in range(50):
                if book.do(*chance_deed(chance, book)):
                    done += 1
                else:
                    refused += 1
                book.look()
        self.assertGreater(done, 250)
        self.assertGreater(refused, 100)


class TestRefusals(Asked):
    def setUp(self):
        self.works = works_with(a=LADDER, b=WIDE, full=(2, 2, 2, to_and_fro(200)))

    def refuse(self, error, deed, *things):
        self.refused(self.works, error, deed, *things)

    def test_no_names(self):
        for name in NO_NAMES + [thing for thing in any_things() if thing != "a"] + ["c"]:
            for deed, things in (("drop", ()), ("weigh", (0, ONE)), ("add", (("weigh", 0, ONE),)), ("take_out", (0,)),
                                 ("ladder", ()), ("table", ()), ("strict", ())):
                self.refuse(NoName, deed, name, *things)
            for deed, things in (("join", ("n", name, "a")), ("join", ("n", "a", name)), ("turn", ("n", name)),
                                 ("cut", ("n", name, [0], [0]))):
                self.refuse(NoName, deed, *things)

    def test_no_new_names(self):
        for name in NO_NAMES + ["a", "b", "full"]:
            for deed, things in (("put", (LADDER,)), ("join", ("a", "a")), ("turn", ("a",)), ("cut", ("a", [0], [0]))):
                self.refuse(NoName, deed, name, *things)

    def test_every_name_of_letters(self):
        for name in ("a", "z", "abcdefgh", "zzzzzzzz", "none", "ladder", "m"):
            works = Works()
            works.put(name, LADDER)
            self.assertEqual(works.names(), [name])

    def test_no_ladders(self):
        for thing in no_ladders():
            self.refuse(NoLadder, "put", "n", thing)
            self.refuse(NoName, "put", "a", thing)
            self.refuse(NoName, "put", None, thing)

    def test_no_choices(self):
        for thing in no_choices(2):
            self.refuse(NoChoice, "cut", "n", "b", thing, [0])
            self.refuse(NoChoice, "cut", "n", "b", thing, [])
            self.refuse(NoName, "cut", "n", "c", thing, [0])
            self.refuse(NoName, "cut", "a", "b", thing, [0])
        for thing in no_choices(4):
            self.refuse(NoChoice, "cut", "n", "b", [0], thing)
            self.refuse(NoName, "cut", "n", [], [0], thing)
        for thing in any_things():
            self.refuse(NoChoice, "cut", "n", "b", thing, thing)
        with self.assertRaisesRegex(NoChoice, "rows"):
            self.works.cut("n", "a", None, None)

    def test_no_fit(self):
        self.refuse(NoFit, "join", "n", "a", "b")
        self.refuse(NoFit, "join", "n", "b", "a")
        self.refuse(NoFit, "join", "n", "b", "b")
        self.refuse(NoName, "join", "a", "a", "b")
        self.refuse(NoName, "join", "n", "a", "c")
        self.refuse(NoName, "join", "n", "c", "b")
        for tracks, others in sizes():
            works = works_with(one=(7, 1, tracks, []), other=(7, others, 1, []))
            if tracks != others:
                self.refused(works, NoFit, "join", "new", "one", "other")
            else:
                works.join("new", "one", "other")

    def test_no_steps(self):
        for thing in no_steps(3) + any_things():
            self.refuse(NoStep, "add", "a", thing)
            self.refuse(NoStep, "add", "full", thing)
            self.refuse(NoName, "add", "c", thing)
            self.refuse(NoName, "add", None, thing)
        for step in (("down", 2, ONE), ("up", 2, ONE), ("weigh", 3, ONE)):
            works = works_with(a=LADDER, b=WIDE)
            self.refused(works, NoStep, "add", "a", step)
            works.add("b", step)

    def test_no_numbers_of_steps(self):
        for thing in no_places(4):
            self.refuse(NoStep, "take_out", "a", thing)
            self.refuse(NoName, "take_out", "c", thing)
            for weight in [ONE] + NO_WEIGHTS[:4]:
                self.refuse(NoStep, "weigh", "a", thing, weight)
                self.refuse(NoName, "weigh", "c", thing, weight)

    def test_no_weights(self):
        for thing in NO_WEIGHTS + any_things():
            for at in range(4):
                self.refuse(NoWeight, "weigh", "a", at, thing)
            self.refuse(NoStep, "weigh", "a", 4, thing)
            self.refuse(NoName, "weigh", "c", 0, thing)

    def test_too_many_steps(self):
        self.refuse(TooMany, "add", "full", ("down", 0, ONE))
        self.refuse(NoStep, "add", "full", ("down", 1, ONE))
        self.refuse(NoName, "add", "fuller", ("down", 0, ONE))


class TestOwnLists(Asked):
    def test_a_list_handed_in_and_changed_later(self):
        works = Works()
        ladder = copy.deepcopy(LADDER)
        works.put("a", ladder)
        ladder[3].clear()
        self.stands(works, "a", LADDER)
        rows, columns = [0, 2], [1]
        works.cut("b", "a", rows, columns)
        told = works.ladder("b")
        rows.clear()
        columns.append(7)
        self.assertEqual(works.ladder("b"), told)
        works.drop("a")
        works.back()
        self.stands(works, "a", LADDER)

    def test_a_list_told_and_changed_later(self):
        works = works_with(a=LADDER)
        works.join("j", "a", "a")
        works.turn("t", "a")
        works.cut("c", "a", [1], [2])
        works.cut("same", "a", [0, 1, 2], [0, 1, 2])
        for name in works.names():
            kept = copy.deepcopy((works.ladder(name), works.table(name)))
            works.ladder(name)[3].append("spoilt")
            table = works.table(name)
            table[0][0] = "spoilt"
            table.append("spoilt")
            self.assertEqual((works.ladder(name), works.table(name)), kept)
        names = works.names()
        names.clear()
        self.assertEqual(works.names(), ["a", "c", "j", "same", "t"])

    def test_ladders_made_of_others_do_not_hang_on_them(self):
        works = works_with(a=(1, 1, 1, [("weigh", 0, (2, 1))]), b=(1, 1, 1, []))
        works.join("j", "a", "b")
        works.join("k", "b", "a")
        works.turn("t", "a")
        works.cut("c", "a", [0], [0])
        for name in "jktc":
            self.assertEqual(works.table(name), [[(2, 1)]])
        works.weigh("a", 0, (3, 1))
        works.add("a", ("weigh", 0, (5, 1)))
        for name in "jktc":
            self.assertEqual(works.table(name), [[(2, 1)]])
        works.drop("a")
        for name in "jktc":
            self.assertEqual(works.table(name), [[(2, 1)]])
            works.add(name, ("weigh", 0, (7, 1)))
            self.assertEqual(works.table(name), [[(14, 1)]])
        for turn in range(5):
            works.back()
        self.assertEqual(works.table("a"), [[(15, 1)]])

    def test_two_works_share_nothing(self):
        one, other = works_with(a=LADDER), Works()
        self.assertEqual(other.names(), [])
        with self.assertRaises(NoDeed):
            other.back()
        other.put("a", one.ladder("a"))
        other.take_out("a", 0)
        self.stands(one, "a", LADDER)


if __name__ == "__main__":
    unittest.main()
