"""Cutting: a text cut into the fewest words of a book."""

from flaglocker.books import is_row_of_terms
from flaglocker.errors import NoCut, NoText

MOST_TERMS = 40


def terms_of(text):
    if not is_row_of_terms(text, MOST_TERMS):
        raise NoText("this is no text of one to forty terms")
    return text.split(" ")


def meanings_of(book):
    return [meaning.split(" ") for word, meaning in book]


def standing_at(meanings, terms, start):
    return [number for number, meaning in enumerate(meanings) if terms[start:start + len(meaning)] == meaning]


def least_numbers(meanings, terms):
    table = [None] * len(terms) + [0]
    # From behind, so that what is left behind a meaning is known by then.
    for start in range(len(terms) - 1, -1, -1):
        behind = [table[start + len(meanings[number])] for number in standing_at(meanings, terms, start)]
        known = [many for many in behind if many is not None]
        if known != []:
            table[start] = 1 + min(known)
    return table


def most_cut(meanings, terms):
    ends = [0]
    for start in range(len(terms)):
        if start in ends:
            ends.extend([start + len(meanings[number]) for number in standing_at(meanings, terms, start)])
    return max(ends)


# Two meanings that stand at one place are unlike in length, so the longest is just one.
def longest_on(meanings, terms, table, start):
    left = table[start] - 1
    standing = standing_at(meanings, terms, start)
    shortest = [number for number in standing if table[start + len(meanings[number])] == left]
    return max(shortest, key=lambda number: len(meanings[number]))


def cut_text(book, text):
    terms = terms_of(text)
    meanings = meanings_of(book)
    table = least_numbers(meanings, terms)
    if table[0] is None:
        raise NoCut(most_cut(meanings, terms))
    numbers = []
    start = 0
    while start < len(terms):
        number = longest_on(meanings, terms, table, start)
        numbers.append(number)
        start = start + len(meanings[number])
    return numbers


def cut_table(book, text):
    return least_numbers(meanings_of(book), terms_of(text))
