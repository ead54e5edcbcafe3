import unittest
from random import Random

from signsmooth.apart import taken_apart
from signsmooth.corners import corners
from signsmooth.desk import Desk
from signsmooth.determinants import is_good
from signsmooth.errors import (NoChoice, NoDeed, NoFit, NoLadder, NoName, NoStep, NoTable, NoText, NoWeight, NoWord,
                               SmoothError, TooMany)
from signsmooth.ladders import table_of
from signsmooth.signs import against, tells_against
from signsmooth.texts import read_ladder, read_row, show_ladder, show_number, show_row, show_table
from signsmooth.thinning import thickened, thinned
from signsmooth.works import Works
from tests import reckon
from tests.makers import Prompt, chance_ladder, chance_table, ints, one_alone_below, pascal, weighed
from tests.things import FORTY, any_things, table_of_size

LADDER = "ladder 2 2 2\ndown 0 1/2\nup 0 1"
TABLE = "3/2 1/2\n1 1"
WIDE = "ladder 3 2 3\ndown 0 1\ndown 1 2/3"

ROWS = {"drop": 1, "join": 3, "turn": 2, "cut": 4, "weigh": 3, "add": 4, "out": 2, "back": 0, "names": 0, "show": 1,
        "table": 1, "strict": 1}
ROWS_WITH_MORE = {"put": 1, "apart": 0, "against": 0, "thin": 0, "thick": 0, "corners": 0, "look": 0}


def desk_with(**ladders):
    desk = Desk()
    for name, text in ladders.items():
        desk.say(f"put {name}\n{text}")
    return desk


def commas(choice):
    return ",".join(map(str, choice))


class Told(unittest.TestCase):
    def told(self, desk, text, answer):
        self.assertEqual(desk.say(text), answer, text)

    def all_of(self, desk):
        names = desk.say("names")
        if names == "none":
            return names
        return names, [desk.say(f"show {name}") for name in names.split(" ")]

    def refused(self, desk, error, text):
        """What is refused changes nothing."""
        before = None if desk.say("names") == "none" else self.all_of(desk)
        with self.assertRaises(error, msg=repr(text)[:200]) as caught:
            desk.say(text)
        self.assertIs(type(caught.exception), error, repr(text)[:200])
        if before is not None:
            self.assertEqual(self.all_of(desk), before)


class TestDeeds(Told):
    def test_put_and_drop_and_names(self):
        desk = Desk()
        self.told(desk, "names", "none")
        self.told(desk, f"put b\n{LADDER}", "ok")
        self.told(desk, "names", "b")
        self.told(desk, f"put abcdefgh\n{WIDE}", "ok")
        self.told(desk, "names", "abcdefgh b")
        self.told(desk, "show b", LADDER)
        self.told(desk, "show abcdefgh", WIDE)
        self.told(desk, "drop b", "ok")
        self.told(desk, "names", "abcdefgh")
        self.told(desk, "drop abcdefgh", "ok")
        self.told(desk, "names", "none")

    def test_a_ladder_called_none(self):
        desk = desk_with(none=LADDER)
        self.told(desk, "names", "none")
        self.told(desk, "show none", LADDER)
        self.told(desk, f"put a\n{WIDE}", "ok")
        self.told(desk, "names", "a none")

    def test_table_and_strict(self):
        desk = desk_with(a=LADDER, b="ladder 2 2 2", c="ladder 1 1 1")
        self.told(desk, "table a", TABLE)
        self.told(desk, "strict a", "yes")
        self.told(desk, "table b", "1 0\n0 1")
        self.told(desk, "strict b", "no")
        self.told(desk, "table c", "1")
        self.told(desk, "strict c", "yes")

    def test_joined_turned_and_cut(self):
        desk = desk_with(a=LADDER, b=WIDE)
        self.told(desk, "join c a b", "ok")
        self.told(desk, "table b", "1 1 2/3\n0 1 2/3")
        self.told(desk, "table c", "3/2 2 4/3\n1 2 4/3")
        self.told(desk, "turn d b", "ok")
        self.told(desk, "table d", "1 0\n1 1\n2/3 2/3")
        self.told(desk, "cut e c 0,1 0,2", "ok")
        self.told(desk, "table e", "3/2 4/3\n1 4/3")
        self.told(desk, "cut f c 1 1", "ok")
        self.told(desk, "table f", "2")
        self.told(desk, "names", "a b c d e f")
        self.told(desk, "join g a a", "ok")
        self.told(desk, "table g", "11/4 5/4\n5/2 3/2")

    def test_steps_changed(self):
        desk = desk_with(a=LADDER)
        self.told(desk, "weigh a 1 7/3", "ok")
        self.told(desk, "show a", "ladder 2 2 2\ndown 0 1/2\nup 0 7/3")
        self.told(desk, "add a weigh 1 0", "ok")
        self.told(desk, "show a", "ladder 2 2 2\ndown 0 1/2\nup 0 7/3\nweigh 1 0")
        self.told(desk, "add a up 0 5", "ok")
        self.told(desk, "add a down 0 1/9", "ok")
        self.told(desk, "out a 0", "ok")
        self.told(desk, "show a", "ladder 2 2 2\nup 0 7/3\nweigh 1 0\nup 0 5\ndown 0 1/9")
        for turn in range(5):
            self.told(desk, "back", "ok")
        self.told(desk, "show a", LADDER)
        self.told(desk, "back", "ok")
        self.told(desk, "names", "none")
        self.refused(desk, NoDeed, "back")


class TestTables(Told):
    def test_apart(self):
        desk = Desk()
        self.told(desk, "apart\n1 2\n1 1", "below 0,1 0,1")
        self.told(desk, "apart\n1 2\n3 -1/2", "below 1 1")
        answer = desk.say("apart\n1 1\n1 2")
        self.assertTrue(answer.startswith("ladder\nladder 2 2 2"))
        self.assertEqual(table_of(read_ladder(answer[len("ladder\n"):])), ints([[1, 1], [1, 2]]))

    def test_against(self):
        desk = Desk()
        self.told(desk, "against\n1 1\n1 2", "none")
        row = read_row(desk.say("against\n1 2\n1 1"))
        self.assertTrue(tells_against(ints([[1, 2], [1, 1]]), row))

    def test_thin_thick_and_corners(self):
        desk = Desk()
        self.told(desk, "thin\n3 1\n2 1", "1 1\n2 1")
        self.told(desk, "thick\n1 1\n2 1", "3 1\n2 1")
        self.told(desk, "corners\n1 2\n3 4", "1 2\n3 -2")
        self.told(desk, "corners\n0", "0")
        self.told(desk, "thick\n1/2", "1/2")

    def test_tables_by_chance(self):
        chance = Random(141)
        desk = desk_with(a=LADDER)
        tables = [chance_table(chance, chance.randint(1, 7), chance.randint(1, 7), 3, 2) for turn in range(40)]
        tables += [pascal(many, 7) for many in range(1, 8)] + [one_alone_below(many) for many in range(1, 8)]
        tables += [weighed(chance, one_alone_below(7), 20), weighed(chance, table_of_size(7, 7), 10)]
        for turn in range(40):
            tables.append(table_of(chance_ladder(chance, 5, chance.randint(1, 5), chance.randint(1, 5), 30)))
        for table in tables:
            text = show_table(table)
            self.told(desk, f"thin\n{text}", show_table(thinned(table)))
            self.told(desk, f"thick\n{text}", show_table(thickened(table)))
            self.told(desk, f"corners\n{text}", show_table(corners(table)))
            paper = taken_apart(table)
            answer, row = desk.say(f"apart\n{text}"), desk.say(f"against\n{text}")
            if is_good(table):
                self.assertEqual(answer, "ladder\n" + show_ladder(paper[1]))
                self.assertEqual(row, "none")
                self.told(desk, f"look\n{text}\n\n{answer.partition(chr(10))[2]}", "yes")
            else:
                self.assertEqual(answer, f"below {commas(paper[1])} {commas(paper[2])}")
                self.assertEqual(row, show_row(against(table)))
                self.told(desk, f"look\n{text}\n\n{answer}", "yes")
                self.told(desk, f"look\n{text}\n\nrow {row}", "yes")
        self.told(desk, "names", "a")
        self.told(desk, "show a", LADDER)

    def test_look(self):
        desk = Desk()
        for text, answer in ((f"{TABLE}\n\n{LADDER}", "yes"), (f"{TABLE}\n\nladder 2 2 2", "no"), (f"{TABLE}\n\n{WIDE}", "no"),
                             ("1\n\nladder 1 1 1", "yes"), ("1\n\nladder 3 1 1", "yes"), ("2\n\nladder 1 1 1", "no"),
                             ("1 0\n\nladder 2 1 2", "yes"), ("1 0\n\nladder 2 2 2", "no"),
                             ("1 2\n1 1\n\nbelow 0,1 0,1", "yes"), ("1 1\n1 2\n\nbelow 0,1 0,1", "no"),
                             ("1 1\n1 1\n\nbelow 0,1 0,1", "no"), ("-1\n\nbelow 0 0", "yes"), ("0\n\nbelow 0 0", "no"),
                             ("-1 -1\n\nbelow 0 0,1", "no"), ("-1 -1\n\nbelow 0 1", "yes"), ("-1 -1\n\nbelow 0 2", "no"),
                             ("-1\n\nbelow -1 0", "no"), ("1 2\n1 1\n\nbelow 1,0 0,1", "no"), ("-1\n\nbelow 0,0 0,0", "no"),
                             ("-1\n\nrow 1", "yes"), ("-1\n\nrow -2/3", "yes"), ("-1\n\nrow 0", "no"), ("1\n\nrow 1", "no"),
                             ("1 2\n1 1\n\nrow -3 2", "yes"), ("1 2\n1 1\n\nrow 1", "no"), ("1 2\n1 1\n\nrow 1 1 1", "no"),
                             ("-1\n\nrow 1 1 1 1 1 1 1 1", "no"), (f"-1\n\nbelow 0 {FORTY}", "no")):
            self.told(desk, f"look\n{text}", answer)

    def test_look_at_great_papers(self):
        chance = Random(142)
        desk = Desk()
        with Prompt(self):
            table = weighed(chance, one_alone_below(7), 20)
            row = desk.say("against\n" + show_table(table))
            self.told(desk, f"look\n{show_table(table)}\n\nrow {row}", "yes")
            ladder = chance_ladder(chance, 7, 7, 6, 400)
            self.told(desk, f"look\n{show_table(table_of(ladder))}\n\n{show_ladder(ladder)}", "yes")


class TestNoWord(Told):
    def setUp(self):
        self.desk = desk_with(a=LADDER, b=WIDE)

    def test_no_text(self):
        for thing in any_things():
            if not isinstance(thing, str):
                self.refused(self.desk, NoWord, thing)

    def test_another_first_word(self):
        for text in ("", " ", "\n", "a", "Put a", "puts a", "putt", "name", "names2", "Names", "NAMES", " names", "names ",
                     "ladder a", "take_out a 0", "take a", "take_out", "help", "good\n1", "ok", "none", "thinned\n1", "~",
                     "below 0 0", "row 1", "corner\n1", "say names", "names,", "look2\n1\n\nrow 1", "\nnames", "0", "1/2",
                     f"ladder\n{LADDER}", LADDER, TABLE, "paper\n1", "a" * 20000):
            self.refused(self.desk, NoWord, text)

    def test_too_few_or_too_many_words(self):
        for row, many in ROWS.items():
            for count in range(7):
                if count != many:
                    self.refused(self.desk, NoWord, " ".join([row] + ["a"] * count))
                    self.refused(self.desk, NoWord, " ".join([row] + ["0"] * count))
        for row, many in ROWS_WITH_MORE.items():
            for count in range(4):
                if count != many:
                    self.refused(self.desk, NoWord, " ".join([row] + ["n"] * count) + f"\n{LADDER}")
                    self.refused(self.desk, NoWord, " ".join([row] + ["n"] * count) + f"\n{TABLE}")
        for text in ("back ", "back  ", "names ", " back", "drop  a", "drop a ", " drop a", f"put  n\n{LADDER}",
                     f"put n \n{LADDER}", f"apart \n{TABLE}", "join n  a a", f"look \n{TABLE}\n\n{LADDER}"):
            self.refused(self.desk, NoWord, text)

    def test_line_ends(self):
        for row, many in ROWS.items():
            words = " ".join([row] + ["a"] * many)
            for more in ("\n", "\n\n", f"\n{LADDER}", f"\n{TABLE}", "\nnames", "\nx"):
                self.refused(self.desk, NoWord, words + more)
        for row, many in ROWS_WITH_MORE.items():
            self.refused(self.desk, NoWord, " ".join([row] + ["n"] * many))

    def test_words_come_ahead_of_all_else(self):
        for text in ("put n", "put n n\nx", "put A n\nladder 9 9 9", "apart 1\nx", "apart 1\n1 2\n3", "weigh a x", "weigh c x",
                     "weigh a x y z", "add a x y", "cut n a x", "cut n a x y z", "out a", "out a x y", "drop A b", "back x",
                     "look x\n1\n\nrow", "strict C c", "drop c\n"):
            self.refused(self.desk, NoWord, text)


class TestNoText(Told):
    def setUp(self):
        self.desk = desk_with(a=LADDER, b=WIDE)

    def test_words_that_are_no_numbers(self):
        for wrong in ("x", "", "+1", "-0", "01", "1/0", "2/4", "1/1", "--1", "1.5", "0x1", "1,", ",1", "1_0", "/"):
            for text in (f"weigh a {wrong} 1", f"weigh a 0 {wrong}", f"add a up {wrong} 1", f"add a up 0 {wrong}",
                         f"out a {wrong}", f"cut n a {wrong} 0", f"cut n a 0 {wrong}", f"cut n a 0,{wrong} 0",
                         f"cut n a 0 {wrong},1", f"look\n-1\n\nbelow {wrong} 0", f"look\n-1\n\nbelow 0 {wrong}",
                         f"look\n-1\n\nrow {wrong}", f"look\n-1\n\nrow 1 {wrong}", f"thin\n{wrong}"):
                self.refused(self.desk, NoText, text)

    def test_numbers_with_a_bottom_where_none_is_due(self):
        for text in ("weigh a 1/2 1", "add a up 1/2 1", "out a 1/2", "cut n a 1/2 0", "cut n a 0 0,1/2",
                     "look\n-1\n\nbelow 1/2 0", "look\n-1\n\nbelow 0 0,1/2"):
            self.refused(self.desk, NoText, text)
        self.told(self.desk, "weigh a 1 1/2", "ok")
        self.told(self.desk, "add a up 0 1/2", "ok")

    def test_commas(self):
        for wrong in (",", "0,", ",0", "0,,1", "0;1", "[0]", "0,1,"):
            self.refused(self.desk, NoText, f"cut n a {wrong} 0")
            self.refused(self.desk, NoText, f"cut n a 0 {wrong}")

    def test_what_is_behind(self):
        for wrong in ("", "\n", " ", "x", "1 2\n", "\n1 2", "1  2", "1 2 ", "1 2\n\n3 4", "1 2/4", LADDER):
            for word in ("apart", "against", "thin", "thick", "corners"):
                self.refused(self.desk, NoText, f"{word}\n{wrong}")
            self.refused(self.desk, NoText, f"look\n{wrong}\n\nrow 1")
        for wrong in ("", "\n", "x", TABLE, "ladder", "ladder 1 1", "ladder 1 1 1\n", "ladder 1 1 1\nweigh 0", f"\n{LADDER}",
                      f"{LADDER}\n", f"{LADDER} ", "ladder 1 1 1\n\nweigh 0 1", "ladder 1 1 x"):
            self.refused(self.desk, NoText, f"put n\n{wrong}")
            self.refused(self.desk, NoText, f"look\n1\n\n{wrong}")

    def test_papers_that_are_not_so_written(self):
        for wrong in ("-1", "-1\n", "-1\nrow 1", "-1\n\n", "-1\n\n\nrow 1", "\n-1\n\nrow 1", "\n\nrow 1", "-1\n\nrow", "-1\n\nrow ",
                      "-1\n\nrow 1 ", "-1\n\nrow  1", "-1\n\nrow 1\n", "-1\n\nrow 1\n2", "-1\n\nrow\n1", "-1\n\nRow 1",
                      "-1\n\nbelow", "-1\n\nbelow 0", "-1\n\nbelow 0 0 0", "-1\n\nbelow 0 0 ", "-1\n\nbelow 0 0\n",
                      "-1\n\nbelow  0 0", "-1\n\nbelow 0\n0", "-1\n\n below 0 0", "-1\n\nladder", "-1\n\nladder\nladder 1 1 1",
                      "-1\n\nnone", "-1\n\nyes", "-1\n\n1 2"):
            self.refused(self.desk, NoText, f"look\n{wrong}")

    def test_texts_come_ahead_of_what_they_say(self):
        for text in ("put a\nladder 0 0 0\n", "put A\nx", "weigh c x 1", "weigh A 0 x", "weigh a 9 x", "weigh a x -1",
                     "add c up x 1", "add a left x 1", "add a up 9 x", "out c x", "cut a c x 9", "cut n a 9 x", "cut n a x 9",
                     "look\n1 2\n3\n\nrow x", "look\n1 2\n3\n\nbelow 0", "look\n1 x\n\nladder 0 0 0", "look\n1 2\n3\n\nladder 0 0",
                     "apart\n1 2\n3 x"):
            self.refused(self.desk, NoText, text)


class TestOtherRefusals(Told):
    def setUp(self):
        self.desk = desk_with(a=LADDER, b=WIDE, full="ladder 1 1 1" + "\nweigh 0 1" * 400)

    def test_no_table(self):
        for wrong in ("1 2\n3", "1\n2 3", "1 2 3 4 5 6 7 8", "\n".join("12345678")):
            for word in ("apart", "against", "thin", "thick", "corners"):
                self.refused(self.desk, NoTable, f"{word}\n{wrong}")
            for paper in ("row 1", "below 0 0", LADDER, "ladder 0 0 0", "row 1 2 3 4 5 6 7 8 9", "below 1,0 7"):
                self.refused(self.desk, NoTable, f"look\n{wrong}\n\n{paper}")

    def test_no_ladder(self):
        for wrong in ("ladder 0 0 0", "ladder 8 8 8", "ladder 1 2 1", "ladder 1 1 1\ndown 0 1", "ladder 1 1 1\nweigh 0 -1",
                      "ladder 1 1 1" + "\nweigh 0 1" * 401):
            # Ahead of what works refuse, names too.
            for name in ("n", "a", "A", "", "abcdefghi", "1"):
                self.refused(self.desk, NoLadder, f"put {name}\n{wrong}")
            self.refused(self.desk, NoLadder, f"look\n1\n\n{wrong}")

    def test_no_name(self):
        for name in ("c", "A", "", "abcdefghi", "a1", "1", "a,b", "~"):
            for text in (f"drop {name}", f"weigh {name} 9 -1", f"add {name} left 9 -1", f"out {name} 9", f"show {name}",
                         f"table {name}", f"strict {name}", f"join n {name} b", f"join n a {name}", f"turn n {name}",
                         f"cut n {name} 9 9"):
                self.refused(self.desk, NoName, text)
        for name in ("a", "b", "A", "", "abcdefghi", "a1"):
            for text in (f"put {name}\n{LADDER}", f"join {name} b a", f"turn {name} a", f"cut {name} a 9 9"):
                self.refused(self.desk, NoName, text)

    def test_what_works_refuse(self):
        for error, text in ((NoChoice, "cut n a 2 0"), (NoChoice, "cut n a 0 2"), (NoChoice, "cut n a 1,0 0"),
                            (NoChoice, "cut n a 0,0 0"), (NoChoice, "cut n a -1 0"), (NoChoice, "cut n a 0 0,1,2"),
                            (NoFit, "join n b a"), (NoFit, "join n b b"), (NoStep, "weigh a 2 1"), (NoStep, "weigh a -1 1"),
                            (NoStep, "weigh a 2 -1"), (NoStep, "out a 2"), (NoStep, "out a -1"), (NoStep, "add a up 1 1"),
                            (NoStep, "add a left 0 1"), (NoStep, "add a  0 1"), (NoStep, "add a Up 0 1"), (NoStep, "add a 0 0 1"),
                            (NoStep, "add a up 0 -1"), (NoStep, "add a weigh -1 1"), (NoStep, "add full weigh 1 1"),
                            (NoWeight, "weigh a 0 -1"), (NoWeight, "weigh a 1 -1/2"), (TooMany, "add full weigh 0 1"),
                            (NoStep, f"out a {FORTY}"), (NoChoice, f"cut n a {FORTY} 0")):
            self.refused(self.desk, error, text)
        for turn in range(3):
            self.desk.say("back")
        self.refused(self.desk, NoDeed, "back")


class TestRowsOfDeeds(Told):
    def drawn(self, chance):
        """A deed for works, and the text that tells it to a desk."""
        names = [chance.choice(("a", "b", "c", "d", "none", "A")) for turn in range(3)]
        at, k = chance.randint(-1, 6), chance.randint(-1, 3)
        weight = chance.choice(((1, 1), (1, 2), (3, 1), (0, 1), (-1, 1), (7, 5)))
        rows, columns = [sorted(chance.sample(range(4), chance.randint(1, 3))) for turn in range(2)]
        tracks = chance.randint(1, 4)
        ladder = chance_ladder(chance, tracks, chance.randint(1, tracks), chance.randint(1, tracks), chance.randint(0, 6))
        step = (chance.choice(("down", "up", "weigh", "left")), k, weight)
        return chance.choice((
            (("put", names[0], ladder), f"put {names[0]}\n{show_ladder(ladder)}"),
            (("put", names[0], ladder), f"put {names[0]}\n{show_ladder(ladder)}"),
            (("drop", names[0]), f"drop {names[0]}"),
            (("join", *names), "join " + " ".join(names)),
            (("turn", *names[:2]), "turn " + " ".join(names[:2])),
            (("cut", *names[:2], rows, columns), f"cut {names[0]} {names[1]} {commas(rows)} {commas(columns)}"),
            (("weigh", names[0], at, weight), f"weigh {names[0]} {at} {show_number(weight)}"),
            (("add", names[0], step), f"add {names[0]} {step[0]} {k} {show_number(weight)}"),
            (("take_out", names[0], at), f"out {names[0]} {at}"),
            (("back",), "back"),
        ))

    def test_against_works_told_the_same(self):
        chance = Random(143)
        done = refused = 0
        for turn in range(25):
            desk, works = Desk(), Works()
            for more in range(60):
                deed, text = self.drawn(chance)
                try:
                    getattr(works, deed[0])(*deed[1:])
                except SmoothError as error:
                    refused += 1
                    self.refused(desk, type(error), text)
                else:
                    done += 1
                    self.told(desk, text, "ok")
                self.told(desk, "names", " ".join(works.names()) or "none")
                for name in works.names():
                    self.assertEqual(table_of(read_ladder(desk.say(f"show {name}"))), works.table(name))
                    self.told(desk, f"table {name}", show_table(works.table(name)))
                    self.told(desk, f"strict {name}", "yes" if reckon.is_strict(works.table(name)) else "no")
        self.assertGreater(done, 250)
        self.assertGreater(refused, 250)

    def test_two_desks_share_nothing(self):
        one, other = desk_with(a=LADDER), Desk()
        self.told(other, "names", "none")
        self.refused(other, NoDeed, "back")
        other.say(f"put a\n{WIDE}")
        self.told(one, "show a", LADDER)


if __name__ == "__main__":
    unittest.main()
