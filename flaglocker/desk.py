"""The desk: a tower that is told rows of words, and answers with texts."""

from flaglocker.books import LONGEST_WORD
from flaglocker.checks import with_check
from flaglocker.cutting import cut_text
from flaglocker.errors import NoHalyard, NoRow, NoText, NoWord
from flaglocker.flags import MOST_PLACES, is_flag, is_word
from flaglocker.halyards import MOST_HALYARDS
from flaglocker.sights import read_in
from flaglocker.texts import BARE, read_book, read_locker, shown_halyards, shown_locker
from flaglocker.tower import Tower

# How many words a row has, its first among them; those that end with terms have as many as they like.
WORDS_IN = {
    "haul": 3, "lower": 2, "lose": 2, "find": 2, "sight": 2, "check": 2,
    "halyards": 1, "locker": 1, "read": 1, "log": 1,
}
WITH_TERMS = ("say", "cut")

HALYARD_FIGURES = "012345"
HIDDEN = "?"
LEAST_SEEN = 2


def is_row(words):
    if "" in words:
        return False
    if words[0] in WITH_TERMS:
        return len(words) > 1
    return WORDS_IN.get(words[0]) == len(words)


def words_of_row(row):
    words = row.split(" ")
    if not is_row(words):
        raise NoRow("this is no row")
    return words


def halyard_number(text):
    # A text of several signs can stand within the figures, too, so its length is asked first.
    if len(text) != 1 or text not in HALYARD_FIGURES:
        raise NoHalyard("this is no halyard's figure")
    return int(text)


def sight_of(text):
    if len(text) < LEAST_SEEN or len(text) > MOST_PLACES:
        raise NoText("a sight has two to seven signs")
    if not all([sign == HIDDEN or is_flag(sign) for sign in text]):
        raise NoText("a sight has flags and hidden places alone")
    return [None if sign == HIDDEN else sign for sign in text]


def checked_word(word):
    if not is_word(word) or len(word) > LONGEST_WORD:
        raise NoWord(0)
    return with_check(word)


# None for a row that only asks. What the tower looks at itself is handed on as it stands.
def deed_of(words):
    if words[0] == "haul":
        return ("haul", halyard_number(words[1]), words[2])
    if words[0] == "lower":
        return ("lower", halyard_number(words[1]))
    if words[0] == "lose" or words[0] == "find":
        return (words[0], words[1])
    if words[0] == "say":
        return ("say", " ".join(words[1:]))
    return None


def row_of(deed):
    return " ".join([str(part) for part in deed])


def told_of_book(book, words):
    if words[0] == "sight":
        return [book[number][1] for number in read_in(book, sight_of(words[1]))]
    if words[0] == "cut":
        return [book[number][0] for number in cut_text(book, " ".join(words[1:]))]
    return [checked_word(words[1])]


def told_of_tower(tower, book, asked):
    if asked == "halyards":
        return [shown_halyards(tower.halyards())]
    if asked == "locker":
        return [shown_locker(tower.locker())]
    if asked == "read":
        return [BARE if number is None else book[number][1] for number in tower.read()]
    return [row_of(deed) for deed in tower.log()]


class Desk:
    def __init__(self, book_text, locker_text, many):
        self.book = read_book(book_text)
        locker = read_locker(locker_text)
        if many < 1 or many > MOST_HALYARDS:
            raise NoHalyard("a tower has one to six halyards")
        self.tower = Tower(self.book, locker, many)

    def say(self, row):
        words = words_of_row(row)
        deed = deed_of(words)
        if deed is not None:
            self.tower.do(deed)
            return []
        if len(words) == 1:
            return told_of_tower(self.tower, self.book, words[0])
        return told_of_book(self.book, words)
