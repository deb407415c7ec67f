"""Sights: what is seen of a hoist in the wind, and the words of a book that can hang so."""

from flaglocker.checks import with_check
from flaglocker.wants import choices_at


def fits_sight(sight, word):
    if len(sight) != len(word):
        return False
    seen = [(place, flag) for place, flag in enumerate(sight, start=1) if flag is not None]
    return all([flag in choices_at(word, place) for place, flag in seen])


def read_in(book, sight):
    return [number for number, row in enumerate(book) if fits_sight(sight, with_check(row[0]))]
