import copy
import unittest
from random import Random

from signsmooth.errors import NoLadder, NoRow, NoTable, NoText
from signsmooth.texts import (read_ladder, read_number, read_row, read_table, show_ladder, show_number, show_row,
                              show_table)
from tests import reckon
from tests.makers import Prompt, chance_ladder, chance_row, chance_table, no_ladders, weighed
from tests.things import FORTY, TWO_HUNDRED, any_things, no_tables, sizes, table_of_size

ONE = (1, 1)
FOUR_THOUSAND = 10 ** 3999 + 9

NUMBERS = [("0", (0, 1)), ("1", (1, 1)), ("-1", (-1, 1)), ("10", (10, 1)), ("1/2", (1, 2)), ("-1/2", (-1, 2)),
           ("20/3", (20, 3)), ("-7/10", (-7, 10)), ("1/1000", (1, 1000)), ("1001", (1001, 1))]

NO_NUMBERS = ["", " ", "  ", "+1", "+0", "-0", "--1", "-", "-/2", "00", "01", "-01", "007", "1/", "/2", "/", "1//2", "1/2/3",
              "1/1", "0/1", "-3/1", "1/0", "0/0", "2/4", "-2/4", "0/5", "3/3", "1/-2", "-1/-2", "1/+2", "1/02", "01/2",
              "-0/2", "1 /2", "1/ 2", " 1", "1 ", "1\n", "\n1", "1\n2", "1 2", "1.5", "1.", "1e3", "1_0", "0x1", "a", "1a",
              "a1", "one", "1,2", "(1, 2)", "[1]", "1-", "1/2-", "~", "\t1", "1\t", "1\r", "\u0661", "\u00b2", "1/\u0662",
              "\uff11", "None", "True", "1/2 ", "10/100", "1000000/1000"]


def no_texts():
    return [thing for thing in any_things() if not isinstance(thing, str)]


class TestNumbers(unittest.TestCase):
    def test_numbers(self):
        for text, number in NUMBERS:
            self.assertEqual(show_number(number), text)
            self.assertEqual(read_number(text), number)

    def test_great_numbers(self):
        for top in (FORTY, -FORTY, TWO_HUNDRED, -TWO_HUNDRED, FOUR_THOUSAND, -FOUR_THOUSAND):
            for bottom in (1, 7 * 10 ** 20 + 1, FORTY + 2, TWO_HUNDRED - 2, 10 ** 3999):
                number = reckon.pair(reckon.number((top, bottom)))
                with Prompt(self):
                    text = show_number(number)
                    self.assertEqual(read_number(text), number)
                    self.assertEqual(show_number(read_number(text)), text)
                self.assertEqual(text, str(reckon.number(number)))

    def test_numbers_by_chance(self):
        chance = Random(131)
        for turn in range(500):
            number = chance_row(chance, 1, 10 ** chance.randint(1, 60), 10 ** chance.randint(1, 60))[0]
            text = show_number(number)
            self.assertEqual(text, str(reckon.number(number)))
            self.assertEqual(read_number(text), number)

    def test_what_is_not_so_written(self):
        for text in NO_NUMBERS:
            with self.assertRaises(NoText, msg=repr(text)):
                read_number(text)
            with self.assertRaises(NoText, msg=repr(text)):
                read_ladder(text)
        with self.assertRaises(NoText):
            read_number("1" * 19999 + "x")
        with self.assertRaises(NoText):
            read_number("0" * 20000)

    def test_what_is_no_text(self):
        for thing in no_texts() + [(1, 2), [(1, 2)], [[(1, 2)]], (1, 1, 1, [])]:
            for asked in (read_number, read_row, read_table, read_ladder):
                with self.assertRaises(NoText, msg=repr(thing)[:80]):
                    asked(thing)


class TestRows(unittest.TestCase):
    def test_rows(self):
        self.assertEqual(show_row([(1, 2), (0, 1), (-3, 1)]), "1/2 0 -3")
        self.assertEqual(read_row("1/2 0 -3"), [(1, 2), (0, 1), (-3, 1)])
        self.assertEqual(show_row([(0, 1)]), "0")
        self.assertEqual(read_row("0"), [(0, 1)])

    def test_rows_of_any_length(self):
        chance = Random(132)
        for length in (1, 2, 6, 7, 8, 9, 30, 500):
            row = chance_row(chance, length, 50, 9)
            kept = list(row)
            text = show_row(row)
            self.assertEqual(row, kept)
            self.assertEqual(text, " ".join(str(reckon.number(entry)) for entry in row))
            self.assertEqual(read_row(text), row)
            self.assertEqual(show_row(read_row(text)), text)

    def test_what_is_not_so_written(self):
        for text in ("", " ", " 1", "1 ", "1  2", "1 2 ", " 1 2", "1\t2", "1\n2", "1 2\n", "1,2", "1 a", "a 1", "1 2/4",
                     "1 -0", "1 2/1", "-", "1 -", "1 + 2", "1 /2", "1 01"):
            with self.assertRaises(NoText, msg=repr(text)):
                read_row(text)
        for wrong in NO_NUMBERS:
            if wrong not in ("1 2",):
                for text in (f"1 {wrong}", f"{wrong} 1", f"1 {wrong} 1/2"):
                    with self.assertRaises(NoText, msg=repr(text)):
                        read_row(text)

    def test_no_row_is_refused(self):
        for thing in ([], None, (ONE,), [1], [[1, 1]], [(2, 4)], "1", [ONE, None]):
            with self.assertRaises(NoRow):
                show_row(thing)

    def test_a_row_that_was_read_is_the_readers_own(self):
        first = read_row("1 2")
        first.append("spoilt")
        self.assertEqual(read_row("1 2"), [(1, 1), (2, 1)])


class TestTables(unittest.TestCase):
    def test_tables(self):
        self.assertEqual(show_table([[(1, 2), (0, 1)], [(-3, 1), (4, 5)]]), "1/2 0\n-3 4/5")
        self.assertEqual(read_table("1/2 0\n-3 4/5"), [[(1, 2), (0, 1)], [(-3, 1), (4, 5)]])
        self.assertEqual(show_table([[ONE]]), "1")
        self.assertEqual(read_table("1"), [[ONE]])

    def test_tables_of_every_size(self):
        chance = Random(133)
        for rows, columns in sizes():
            for table in (table_of_size(rows, columns), chance_table(chance, rows, columns, 9, 9)):
                kept = copy.deepcopy(table)
                text = show_table(table)
                self.assertEqual(table, kept)
                self.assertEqual(text, "\n".join(" ".join(str(reckon.number(entry)) for entry in row) for row in table))
                self.assertEqual(read_table(text), table)
                self.assertEqual(show_table(read_table(text)), text)
        table = weighed(chance, table_of_size(7, 7), 100)
        self.assertEqual(read_table(show_table(table)), table)

    def test_what_is_not_so_written(self):
        for text in ("", "\n", "1\n", "\n1", "1\n\n2", "1 2\n3 4\n", "\n1 2\n3 4", "1 2 \n3 4", "1 2\n 3 4", "1  2\n3 4",
                     "1 2\r\n3 4", "1 2\n3 a", "1 2\n3 2/4", "1 2;3 4", "1\t2\n3\t4", "1 2\n3 +4", "1 2\n3 -0", "ladder 1 1 1"):
            with self.assertRaises(NoText, msg=repr(text)):
                read_table(text)

    def test_so_written_but_no_table(self):
        for text in ("1 2\n3", "1\n2 3", "1 2 3 4 5 6 7 8", "\n".join("12345678"), "1 2\n3 4\n5", "\n".join(["1 2"] * 8),
                     " ".join(["0"] * 500)):
            with self.assertRaises(NoTable, msg=repr(text)):
                read_table(text)
        # Both are due: what is not so written comes first.
        for text in ("1 2\n3\n", "1 2\nx", "1 2 3 4 5 6 7 8 ", "1 2 3 4 5 6 7 01", "1\n2 3 4/2"):
            with self.assertRaises(NoText, msg=repr(text)):
                read_table(text)

    def test_no_table_is_refused(self):
        for thing in no_tables():
            with self.assertRaises(NoTable):
                show_table(thing)

    def test_a_table_that_was_read_is_the_readers_own(self):
        first = read_table("1 2\n1 2")
        first[0][0] = "spoilt"
        self.assertEqual(first[1], [(1, 1), (2, 1)])
        self.assertEqual(read_table("1 2\n1 2"), [[(1, 1), (2, 1)]] * 2)


class TestLadders(unittest.TestCase):
    def told(self, ladder, text):
        kept = copy.deepcopy(ladder)
        self.assertEqual(show_ladder(ladder), text)
        self.assertEqual(ladder, kept)
        self.assertEqual(read_ladder(text), ladder)
        self.assertEqual(show_ladder(read_ladder(text)), text)

    def test_ladders(self):
        self.told((1, 1, 1, []), "ladder 1 1 1")
        self.told((7, 3, 5, []), "ladder 7 3 5")
        self.told((3, 2, 1, [("down", 0, (1, 2)), ("up", 1, (3, 1)), ("weigh", 2, (0, 1))]),
                  "ladder 3 2 1\ndown 0 1/2\nup 1 3\nweigh 2 0")

    def test_ladders_by_chance(self):
        chance = Random(134)
        for many in (0, 1, 2, 20, 399, 400):
            for tracks in range(1, 8):
                weights = ((1, 1), (5, 3), (FORTY, 1), (1, FORTY), (FORTY, FORTY - 1))
                ladder = chance_ladder(chance, tracks, chance.randint(1, tracks), chance.randint(1, tracks), many, weights)
                rows = ["ladder %d %d %d" % ladder[:3]]
                rows += ["%s %d %s" % (word, k, reckon.number(weight)) for word, k, weight in ladder[3]]
                self.told(ladder, "\n".join(rows))

    def test_what_is_not_so_written(self):
        for text in ("", "ladder", "ladder ", "ladder 1 1", "ladder 1 1 1 1", "ladder 1 1 1 ", " ladder 1 1 1", "Ladder 1 1 1",
                     "ladder  1 1 1", "ladder 1 1 1\n", "\nladder 1 1 1", "ladder\n1 1 1", "ladder 1 1 a", "ladder 1 1 01",
                     "ladder 1 1 1/2", "ladder 3/2 1 1", "ladder 1 2/1 1", "ladder 1 -0 1", "ladder +1 1 1", "rope 1 1 1",
                     "1 1 1", "ladder 1,1,1", "ladder 1 1 1\n\nweigh 0 1", "ladder 1 1 1\nweigh 0 1\n", "ladder 1 1 1 weigh 0 1",
                     "ladder 1 1 1\nweigh 0", "ladder 1 1 1\nweigh 0 1 1", "ladder 1 1 1\nweigh  0 1", "ladder 1 1 1\nweigh 0 1 ",
                     "ladder 1 1 1\n weigh 0 1", "ladder 1 1 1\nWeigh 0 1", "ladder 1 1 1\nleft 0 1", "ladder 1 1 1\n0 1",
                     "ladder 1 1 1\nweigh a 1", "ladder 1 1 1\nweigh 0 a", "ladder 1 1 1\nweigh 0/1 1", "ladder 1 1 1\nweigh 1/2 1",
                     "ladder 1 1 1\nweigh 0 2/4", "ladder 1 1 1\nweigh 0 2/1", "ladder 1 1 1\nweigh 00 1", "ladder 1 1 1\n",
                     "ladder 1 1 1\nweigh 0 -0", "ladder 1 1 1\nweigh -0 1", "ladder 1 1 1\nweigh 0 1/0", "ladder 1 1 1\r\nweigh 0 1",
                     "ladder 1 1 1\nladder 1 1 1", "ladder 1 1 1\nweigh\t0 1", "weigh 0 1", "ladder 1 1 1\nup"):
            with self.assertRaises(NoText, msg=repr(text)):
                read_ladder(text)

    def test_so_written_but_no_ladder(self):
        for text in ("ladder 0 0 0", "ladder 8 1 1", "ladder 1 0 1", "ladder 1 1 0", "ladder 1 2 1", "ladder 1 1 2", "ladder -1 1 1",
                     "ladder 3 -1 1", "ladder 1 1 1\nweigh 1 1", "ladder 1 1 1\ndown 0 1", "ladder 2 2 2\nup 1 1",
                     "ladder 2 2 2\nup -1 1", "ladder 2 2 2\nweigh 0 -1", "ladder 2 2 2\ndown 0 -1/2",
                     "ladder 1 1 1" + "\nweigh 0 1" * 401, f"ladder {FORTY} 1 1", f"ladder 1 1 1\nweigh {FORTY} 1"):
            with self.assertRaises(NoLadder, msg=repr(text)[:80]):
                read_ladder(text)
        # Both are due: what is not so written comes first.
        for text in ("ladder 0 0 0\n", "ladder 8 1 1\nweigh 0", "ladder 1 1 1\nweigh 1 1\nweigh 0 2/4", "ladder 9 9 x",
                     "ladder 1 1 1" + "\nweigh 0 1" * 401 + " "):
            with self.assertRaises(NoText, msg=repr(text)[:80]):
                read_ladder(text)

    def test_long_texts(self):
        text = "ladder 1 1 1" + "\nweigh 0 1" * 400
        self.assertEqual(len(read_ladder(text)[3]), 400)
        text = "ladder 7 7 7\nweigh 6 %d/%d" % (FOUR_THOUSAND, 10 ** 3999)
        self.assertEqual(show_ladder(read_ladder(text)), text)

    def test_no_ladder_is_refused(self):
        for thing in no_ladders():
            with self.assertRaises(NoLadder):
                show_ladder(thing)

    def test_a_ladder_that_was_read_is_the_readers_own(self):
        first = read_ladder("ladder 1 1 1\nweigh 0 2")
        first[3].clear()
        self.assertEqual(read_ladder("ladder 1 1 1\nweigh 0 2"), (1, 1, 1, [("weigh", 0, (2, 1))]))


if __name__ == "__main__":
    unittest.main()
