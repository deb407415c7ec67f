"""Texts: lockers, halyards and books written, and read back."""

from flaglocker.books import look_at
from flaglocker.errors import NoText
from flaglocker.flags import FLAGS, SUBSTITUTES
from flaglocker.halyards import MOST_HALYARDS
from flaglocker.hoists import is_hoist
from flaglocker.lockers import MOST_OF_A_FLAG, plain_locker

BARE = "-"


# The x keeps a substitute's figure apart from those of its number.
def mark_of(flag):
    if flag in SUBSTITUTES:
        return flag + "x"
    return flag


def shown_locker(locker):
    plain = plain_locker(locker)
    return " ".join([mark_of(flag) + str(plain[flag]) for flag in plain])


def shown_halyards(halyards):
    return " ".join([BARE if hoist is None else "".join(hoist) for hoist in halyards])


def shown_book(book):
    return "\n".join([word + " " + meaning for word, meaning in book])


# Held against the numbers as they are written, since int would take a nought ahead, a sign or foreign figures too.
def is_number(text):
    return text in [str(number) for number in range(1, MOST_OF_A_FLAG + 1)]


def read_some(text):
    for flag in FLAGS:
        number = text[len(mark_of(flag)):]
        if text.startswith(mark_of(flag)) and is_number(number):
            return (flag, int(number))
    raise NoText("this is no flag with its number")


def read_locker(text):
    if text == "":
        return {}
    some = [read_some(part) for part in text.split(" ")]
    flags = [flag for flag, number in some]
    if flags != [flag for flag in FLAGS if flag in flags]:
        raise NoText("these flags are not in their order, each once")
    return dict(some)


def read_halyard(text):
    if text == BARE:
        return None
    if not is_hoist(list(text)):
        raise NoText("this is no hoist")
    return list(text)


# The text without signs falls to read_halyard: halyards are at least one, and none of them is written without signs.
def read_halyards(text):
    halyards = [read_halyard(part) for part in text.split(" ")]
    if len(halyards) > MOST_HALYARDS:
        raise NoText("these are more than six halyards")
    return halyards


def read_book(text):
    rows = [row.partition(" ") for row in text.split("\n")]
    if not all([row[1] == " " for row in rows]):
        raise NoText("here is a row without a blank")
    book = [(row[0], row[2]) for row in rows]
    look_at(book)
    return book
