"""What is promised over the whole program, sentence by sentence, over what is drawn by chance."""

import copy
import unittest
from fractions import Fraction
from random import Random

from signsmooth.apart import first_below, taken_apart
from signsmooth.corners import corners, made_by
from signsmooth.desk import Desk
from signsmooth.determinants import determinant, is_good, is_strict, minor, product, undone
from signsmooth.errors import NoPaper
from signsmooth.families import families, families_counted
from signsmooth.fracs import product_of
from signsmooth.ladders import is_ladder, table_of, ways, weight_of
from signsmooth.papers import look_paper
from signsmooth.signs import against, behind, first_sign, least_changes, most_changes, tells_against
from signsmooth.stairs import count, is_staircase, lies_beneath, listed, marks_of, number_of, numbered, stands
from signsmooth.tables import part_of, turned
from signsmooth.texts import read_ladder, read_table, show_ladder, show_table
from signsmooth.thinning import thickened, thinned
from tests import reckon
from tests.deeds import Book, chance_deed
from tests.makers import chance_ladder, chance_row, chance_table, one_alone_below, pascal, within
from tests.things import choices_of


def drawn_tables(chance, many, most=5):
    """Tables of all kinds: about half of them good."""
    found = []
    for turn in range(many):
        tracks = chance.randint(1, most)
        rows, columns = chance.randint(1, tracks), chance.randint(1, tracks)
        ladder = chance_ladder(chance, tracks, rows, columns, chance.randint(0, 30), noughts=chance.choice((0, 0.1, 0.3)))
        found.append(table_of(ladder))
        changed = table_of(ladder)
        changed[chance.randrange(rows)][chance.randrange(columns)] = (chance.randint(-1, 4), chance.choice((1, 5)))
        found.append([[reckon.pair(reckon.number(entry)) for entry in row] for row in changed])
        found.append(chance_table(chance, chance.randint(1, 4), chance.randint(1, 4), 3, 2))
    return found


def is_let_by(table, paper):
    try:
        look_paper(table, paper)
    except NoPaper:
        return False
    return True


class TestPromise(unittest.TestCase):
    def test_every_table_is_told_as_a_ladder_or_with_a_determinant_below_0(self):
        kinds = {"ladder": 0, "below": 0}
        for table in drawn_tables(Random(151), 100):
            paper = taken_apart(table)
            kinds[paper[0]] += 1
            if paper[0] == "ladder":
                self.assertTrue(is_ladder(paper[1]))
                self.assertEqual(table_of(paper[1]), table)
                self.assertIsNone(first_below(table))
            else:
                self.assertLess(minor(table, paper[1], paper[2])[0], 0)
                self.assertEqual(first_below(table), paper[1:])
            self.assertTrue(is_let_by(table, paper))
        self.assertGreater(min(kinds.values()), 80)

    def test_no_table_is_both_whoever_wrote_the_ladder(self):
        chance = Random(152)
        for turn in range(100):
            tracks = chance.randint(1, 4)
            ladder = chance_ladder(chance, tracks, chance.randint(1, tracks), chance.randint(1, tracks), 12, noughts=0.2)
            for table in (reckon.ladder_table(ladder), chance_table(chance, ladder[1], ladder[2], 1, 1)):
                if is_let_by(table, ("ladder", ladder)):
                    self.assertTrue(reckon.is_good(table))
                    for some in choices_of(len(table)):
                        for others in choices_of(len(table[0])):
                            self.assertFalse(is_let_by(table, ("below", some, others)))
                    self.assertFalse(is_let_by(table, ("row", chance_row(chance, len(table[0])))))

    def test_every_determinant_of_a_ladders_table_is_the_weight_of_its_families(self):
        chance = Random(153)
        for turn in range(60):
            tracks = chance.randint(1, 4)
            ladder = chance_ladder(chance, tracks, chance.randint(1, tracks), chance.randint(1, tracks), 9)
            table = table_of(ladder)
            for rows, columns in reckon.pairs_of_choices(ladder[1], ladder[2]):
                every = families(ladder, rows, columns)
                total = sum(weight(ladder, family) for family in every)
                self.assertEqual(minor(table, rows, columns), reckon.pair(total))
                self.assertEqual(families_counted(ladder, rows, columns), len(every))
            self.assertEqual(ways(ladder, 0, 0), [family[0] for family in families(ladder, [0], [0])])

    def test_changes_of_sign_behind_good_tables_and_others(self):
        chance = Random(154)
        for table in drawn_tables(chance, 100):
            row = against(table)
            self.assertEqual(row is None, is_good(table))
            if row is not None:
                self.assertTrue(reckon.tells_against(table, row))
                self.assertTrue(is_let_by(table, ("row", row)))
                continue
            for more in range(8):
                ahead = chance_row(chance, len(table[0]), 2, 1)
                after = behind(table, ahead)
                self.assertLessEqual(least_changes(after), least_changes(ahead))
                if least_changes(after) == least_changes(ahead) and first_sign(after) != 0:
                    self.assertEqual(first_sign(after), first_sign(ahead))
                if is_strict(table) and first_sign(ahead) != 0:
                    self.assertLessEqual(most_changes(after), least_changes(ahead))
                self.assertFalse(tells_against(table, ahead))

    def test_every_good_table_is_one_staircase_and_every_staircase_is_such_a_table(self):
        chance = Random(155)
        for table in drawn_tables(chance, 100):
            thin = thinned(table)
            marks = marks_of(thin)
            above = all(entry[0] >= 0 for row in thin for entry in row)
            self.assertEqual(is_good(table), above and is_staircase(marks))
            self.assertEqual(thickened(thin), table)
        for turn in range(60):
            rows, columns = chance.randint(1, 7), chance.randint(1, 7)
            marks = numbered(rows, columns, chance.randrange(count(rows, columns)))
            thin = [[(mark * chance.randint(1, 4), 1) for mark in row] for row in marks]
            table = thickened(thin)
            self.assertTrue(is_good(table))
            self.assertEqual(thinned(table), thin)
            self.assertEqual(number_of(marks_of(thinned(table))), number_of(marks))

    def test_which_determinants_are_0_hangs_on_the_staircase_alone(self):
        chance = Random(156)
        for table in drawn_tables(chance, 60, 4):
            if is_good(table):
                marks = marks_of(thinned(table))
                for rows, columns, value in reckon.all_minors(table):
                    self.assertIs(stands(marks, rows, columns), value != 0)
        every = listed(2, 3)
        for one in every:
            self.assertEqual([other for other in every if lies_beneath(one, other) and lies_beneath(other, one)], [one])

    def test_all_determinants_are_above_0_just_where_the_corners_are_and_none_can_be_left_out(self):
        chance = Random(157)
        for table in drawn_tables(chance, 100):
            self.assertIs(is_strict(table), all(entry[0] > 0 for row in corners(table) for entry in row))
        for turn in range(40):
            rows, columns = chance.randint(1, 6), chance.randint(1, 6)
            some = [[(chance.randint(1, 5), chance.choice((1, 7))) for j in range(columns)] for i in range(rows)]
            self.assertTrue(is_strict(made_by(some)))
            self.assertEqual(corners(made_by(some)), some)
            row = chance.choice(some)
            place = chance.randrange(columns)
            row[place] = (-row[place][0], row[place][1])
            self.assertFalse(is_strict(made_by(some)))

    def test_behind_every_row_of_deeds_all_is_as_if_made_anew(self):
        chance = Random(158)
        for turn in range(6):
            book = Book(self)
            for deed in range(40):
                book.do(*chance_deed(chance, book))
            book.look()
            desk = Desk()
            for name, ladder in book.kept.items():
                self.assertEqual(desk.say(f"put {name}\n{show_ladder(ladder)}"), "ok")
            for name in book.kept:
                self.assertEqual(read_ladder(desk.say(f"show {name}")), book.works.ladder(name))
                self.assertEqual(read_table(desk.say(f"table {name}")), book.works.table(name))
                self.assertEqual(desk.say(f"strict {name}"), "yes" if book.works.strict(name) else "no")
                if len(book.kept[name][3]) < 15:
                    self.assertEqual(book.works.table(name), reckon.ladder_table(book.kept[name]))

    def test_tables_written_taken_apart_and_looked_at_by_a_desk(self):
        desk = Desk()
        for table in drawn_tables(Random(159), 60):
            text = show_table(table)
            answer = desk.say(f"apart\n{text}")
            paper = answer.partition("\n")[2] if answer.startswith("ladder") else answer
            self.assertEqual(desk.say(f"look\n{text}\n\n{paper}"), "yes")
            row = desk.say(f"against\n{text}")
            self.assertEqual(row == "none", answer.startswith("ladder"))
            if row != "none":
                self.assertEqual(desk.say(f"look\n{text}\n\nrow {row}"), "yes")
            self.assertEqual(desk.say("thick\n" + desk.say(f"thin\n{text}")), text)


def weight(ladder, family):
    total = (1, 1)
    for way in family:
        total = product_of(total, weight_of(ladder, way))
    return Fraction(total[0], total[1])


def spoil(thing):
    """Change each list within a thing, the inner ones first."""
    for part in thing if isinstance(thing, (list, tuple)) else ():
        spoil(part)
    if isinstance(thing, list):
        thing.append("spoilt")
        thing[0] = "spoilt"


def lists_in(thing):
    found = [thing] if isinstance(thing, list) else []
    for part in thing if isinstance(thing, (list, tuple)) else ():
        found += lists_in(part)
    return found


class TestOwnLists(unittest.TestCase):
    """Nothing that is handed in is changed, and changing an answer changes neither that nor the next answer."""

    def asked(self, function, *things):
        kept = copy.deepcopy(things)
        first = function(*things)
        self.assertEqual(things, kept, function)
        due = copy.deepcopy(first)
        second = function(*things)
        self.assertEqual(second, due, function)
        # Every list in an answer is a list by itself, and none of those handed in.
        every = lists_in(first) + lists_in(second) + lists_in(things)
        self.assertEqual(len({id(one) for one in every}), len(lists_in(first)) + len(lists_in(second))
                         + len({id(one) for one in lists_in(things)}), function)
        spoil(first)
        self.assertEqual(things, kept, function)
        self.assertEqual(second, due, function)
        self.assertEqual(function(*things), due, function)
        spoil(things)
        self.assertEqual(second, due, function)

    def test_every_function(self):
        chance = Random(160)
        makers = [lambda many=many: pascal(many, many) for many in (1, 2, 4)]
        makers += [lambda: one_alone_below(4), lambda: within(pascal(2, 2), 4, 4, 1, 1), lambda: pascal(3, 3)]
        for make in makers:
            for function in (turned, determinant, is_good, is_strict, first_below, taken_apart, against, thinned, thickened,
                             marks_of, corners, show_table):
                self.asked(function, make())
            self.asked(product, make(), make())
            self.asked(part_of, make(), [0], [0])
            self.asked(minor, make(), [0], [0])
            self.asked(behind, make(), [(1, 1)] * len(make()))
            self.asked(tells_against, make(), [(1, 1)] * len(make()))
            self.asked(look_paper, make(), taken_apart(make()))
        for many in (1, 3, 5):
            self.asked(undone, pascal(many, many))
            self.asked(made_by, pascal(many, many))
        for turn in range(10):
            ladder = chance_ladder(chance, 3, 3, 3, 6, noughts=0)
            for function in (table_of, show_ladder):
                self.asked(function, copy.deepcopy(ladder))
            self.asked(ways, copy.deepcopy(ladder), 0, 0)
            self.asked(families, copy.deepcopy(ladder), [0, 1], [0, 1])
            self.asked(families_counted, copy.deepcopy(ladder), [0, 1], [0, 1])
        for number in (0, 5, 45):
            self.asked(stands, numbered(2, 3, number), [0, 1], [0, 1])
            self.asked(lies_beneath, numbered(2, 3, number), numbered(2, 3, 7))
            self.asked(number_of, numbered(2, 3, number))
            self.asked(numbered, 2, 3, number)
        self.asked(listed, 2, 2)
        self.asked(least_changes, [(1, 1), (-1, 1)])
        self.asked(most_changes, [(1, 1), (-1, 1)])
        self.asked(first_sign, [(1, 1), (-1, 1)])
        self.asked(read_table, "1 2\n3 4")
        self.asked(read_ladder, "ladder 2 2 2\nup 0 1")


if __name__ == "__main__":
    unittest.main()
