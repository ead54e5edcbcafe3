"""Numbers, rows, tables and ladders, written as texts and read."""

from signsmooth.errors import NoRow, NoText
from signsmooth.fracs import is_fraction
from signsmooth.ladders import look_ladder
from signsmooth.tables import look_table

FIGURES = "0123456789"
STEP_WORDS = ("down", "up", "weigh")


def show_number(number):
    top = str(number[0])
    bottom = str(number[1])
    return top if bottom == "1" else f"{top}/{bottom}"


# Rows that are written may have more numbers than a row of a table has.
def show_row(row):
    if not isinstance(row, list) or len(row) == 0 or not all([is_fraction(number) for number in row]):
        raise NoRow("no row: a list of one fraction or more")
    return " ".join([show_number(number) for number in row])


def show_table(table):
    look_table(table)
    return "\n".join([show_row(row) for row in table])


def show_ladder(ladder):
    look_ladder(ladder)
    counts = " ".join([str(number) for number in ladder[:3]])
    return "\n".join([f"ladder {counts}"] + [show_step(step) for step in ladder[3]])


def show_step(step):
    return " ".join([step[0], str(step[1]), show_number(step[2])])


def look_text(thing):
    if not isinstance(thing, str):
        raise NoText("no text")


def read_number(text):
    look_text(text)
    return number_in(text)


def read_row(text):
    look_text(text)
    return row_in(text)


def read_table(text):
    look_text(text)
    table = rows_in(text)
    look_table(table)
    return table


def read_ladder(text):
    look_text(text)
    ladder = ladder_in(text)
    look_ladder(ladder)
    return ladder


def number_in(text):
    pieces = text.split("/")
    if len(pieces) == 1:
        return (whole_in(text), 1)
    if len(pieces) != 2:
        raise NoText("no number: more than one stroke")
    number = (whole_in(pieces[0]), whole_in(pieces[1]))
    if number[1] == 1 or not is_fraction(number):
        raise NoText("no number: the bottom is not from 2 on, or not in lowest terms")
    return number


def whole_in(text):
    figures = text[1:] if text.startswith("-") else text
    if figures == "" or not all([sign in FIGURES for sign in figures]):
        raise NoText("no number: signs that are no figures, or no figure")
    if figures[0] == "0" and text != "0":
        raise NoText("no number: a nought ahead, or below 0")
    # Python reads no numbers of far more figures than are promised.
    try:
        return int(text)
    except ValueError:
        raise NoText("no number: too many figures") from None


def row_in(text):
    return [number_in(word) for word in text.split(" ")]


# What is so written: whether it is a table, or a ladder, is looked at behind that.
def rows_in(text):
    return [row_in(line) for line in text.split("\n")]


def ladder_in(text):
    lines = text.split("\n")
    words = lines[0].split(" ")
    if words[0] != "ladder" or len(words) != 4:
        raise NoText("no ladder's first row: ladder TRACKS ROWS COLUMNS")
    steps = [step_in(line) for line in lines[1:]]
    return (whole_in(words[1]), whole_in(words[2]), whole_in(words[3]), steps)


def step_in(line):
    words = line.split(" ")
    if words[0] not in STEP_WORDS or len(words) != 3:
        raise NoText("no step's row: WORD K WEIGHT")
    return (words[0], whole_in(words[1]), number_in(words[2]))
