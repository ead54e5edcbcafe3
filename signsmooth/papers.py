"""Papers: what shows that a table is made by a ladder, or that it is not good."""

from signsmooth.determinants import minor
from signsmooth.errors import NoPaper
from signsmooth.ladders import is_ladder, table_of
from signsmooth.signs import tells_against
from signsmooth.tables import is_choice, is_row, look_table


def look_paper(table, paper):
    look_table(table)
    if not is_let_by(table, paper):
        raise NoPaper("no paper for this table, or one that does not show what it says")


def is_let_by(table, paper):
    if not isinstance(paper, tuple) or len(paper) not in (2, 3):
        return False
    if len(paper) == 3:
        return paper[0] == "below" and shows_below(table, paper[1], paper[2])
    if paper[0] == "ladder":
        return shows_ladder(table, paper[1])
    return paper[0] == "row" and shows_row(table, paper[1])


# The ladder's table is reckoned last: it takes longest.
def shows_ladder(table, ladder):
    if not is_ladder(ladder) or ladder[1] != len(table) or ladder[2] != len(table[0]):
        return False
    return table_of(ladder) == table


def shows_below(table, rows, columns):
    if not is_choice(rows, len(table)) or not is_choice(columns, len(table[0])):
        return False
    return len(rows) == len(columns) and minor(table, rows, columns)[0] < 0


def shows_row(table, row):
    return is_row(row) and len(row) == len(table[0]) and tells_against(table, row)
