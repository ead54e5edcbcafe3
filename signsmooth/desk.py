"""A desk: works that are told texts and answer with texts."""

from signsmooth.apart import taken_apart
from signsmooth.corners import corners
from signsmooth.errors import NoWord
from signsmooth.ladders import look_ladder
from signsmooth.papers import is_let_by
from signsmooth.signs import against
from signsmooth.tables import look_table
from signsmooth.texts import (ladder_in, number_in, read_ladder, read_table, row_in, rows_in, show_ladder, show_row,
                              show_table, whole_in)
from signsmooth.thinning import thickened, thinned
from signsmooth.works import Works

# How many words each first row has.
MANY_WORDS = {
    "put": 2, "drop": 2, "join": 4, "turn": 3, "cut": 5, "weigh": 4, "add": 5, "out": 3, "back": 1,
    "names": 1, "show": 2, "table": 2, "strict": 2,
    "apart": 1, "against": 1, "thin": 1, "thick": 1, "corners": 1, "look": 1,
}
QUESTIONS = ("names", "show", "table", "strict")
OF_TABLES = ("apart", "against", "thin", "thick", "corners")


class Desk:
    def __init__(self):
        self.works = Works()

    def say(self, text):
        words = words_of(text)
        rest = text.partition("\n")[2]
        if words[0] in QUESTIONS:
            return self.answer(words)
        if words[0] in OF_TABLES:
            return told_of(words[0], read_table(rest))
        if words[0] == "look":
            return yes_or_no(shows_what_it_says(rest))
        self.do(words, rest)
        return "ok"

    def answer(self, words):
        if words[0] == "names":
            return " ".join(self.works.names()) if len(self.works.names()) > 0 else "none"
        if words[0] == "show":
            return show_ladder(self.works.ladder(words[1]))
        if words[0] == "table":
            return show_table(self.works.table(words[1]))
        return yes_or_no(self.works.strict(words[1]))

    def do(self, words, rest):
        if words[0] == "put":
            self.works.put(words[1], read_ladder(rest))
        elif words[0] == "drop":
            self.works.drop(words[1])
        elif words[0] == "join":
            self.works.join(words[1], words[2], words[3])
        elif words[0] == "turn":
            self.works.turn(words[1], words[2])
        elif words[0] == "cut":
            self.works.cut(words[1], words[2], choice_in(words[3]), choice_in(words[4]))
        elif words[0] == "weigh":
            self.works.weigh(words[1], whole_in(words[2]), number_in(words[3]))
        elif words[0] == "add":
            self.works.add(words[1], (words[2], whole_in(words[3]), number_in(words[4])))
        elif words[0] == "out":
            self.works.take_out(words[1], whole_in(words[2]))
        else:
            self.works.back()


def words_of(text):
    if not isinstance(text, str):
        raise NoWord("no text")
    pieces = text.partition("\n")
    words = pieces[0].split(" ")
    if MANY_WORDS.get(words[0]) != len(words):
        raise NoWord("no such first word, or too few or too many words")
    is_more_due = words[0] in OF_TABLES or words[0] in ("put", "look")
    if is_more_due != (pieces[1] != ""):
        raise NoWord("a line end where none is due, or none where one is")
    return words


def yes_or_no(truth):
    return "yes" if truth else "no"


def choice_in(word):
    return [whole_in(piece) for piece in word.split(",")]


def show_choice(choice):
    return ",".join([str(number) for number in choice])


def told_of(word, table):
    if word == "apart":
        return show_apart(taken_apart(table))
    if word == "against":
        row = against(table)
        return "none" if row is None else show_row(row)
    if word == "thin":
        return show_table(thinned(table))
    if word == "thick":
        return show_table(thickened(table))
    return show_table(corners(table))


def show_apart(paper):
    if paper[0] == "ladder":
        return "ladder\n" + show_ladder(paper[1])
    return " ".join(["below", show_choice(paper[1]), show_choice(paper[2])])


# How both are written comes first: only then whether there is a table, and then a ladder. (Where there is no empty row
# nothing is left for a paper, and no paper is so written.)
def shows_what_it_says(text):
    pieces = text.partition("\n\n")
    table = rows_in(pieces[0])
    paper = paper_in(pieces[2])
    look_table(table)
    if paper[0] == "ladder":
        look_ladder(paper[1])
    return is_let_by(table, paper)


def paper_in(text):
    words = text.split(" ")
    if words[0] == "below" and len(words) == 3:
        return ("below", choice_in(words[1]), choice_in(words[2]))
    if words[0] == "row":
        return ("row", row_in(text[len("row "):]))
    return ("ladder", ladder_in(text))
