"""Books: words with their meanings, terms, and the text that words of a book say."""

from flaglocker.errors import NoBook, NoWord
from flaglocker.flags import is_word

TERM_LETTERS = "abcdefghijklmnopqrstuvwxyz"
LONGEST_TERM = 10
MOST_TUPLES = 60

# One place less than a hoist has, so that there is room for the check letter.
LONGEST_WORD = 6
MOST_TERMS_MEANT = 5


def is_term(text):
    if len(text) < 1 or len(text) > LONGEST_TERM:
        return False
    return all([sign in TERM_LETTERS for sign in text])


# Two blanks side by side, or one at an end, leave a text without signs, which is no term.
def is_row_of_terms(text, most):
    terms = text.split(" ")
    return len(terms) <= most and all([is_term(term) for term in terms])


def may_follow(book, at):
    word = book[at][0]
    meaning = book[at][1]
    if at >= MOST_TUPLES or not is_word(word) or len(word) > LONGEST_WORD:
        return False
    if not is_row_of_terms(meaning, MOST_TERMS_MEANT):
        return False
    return all([ahead[0] != word and ahead[1] != meaning for ahead in book[:at]])


def look_at(book):
    if book == []:
        raise NoBook(0)
    for at in range(len(book)):
        if not may_follow(book, at):
            raise NoBook(at)


def text_said(book, words):
    if words == []:
        raise NoWord(0)
    meaning_of = dict(book)
    for at, word in enumerate(words):
        if word not in meaning_of:
            raise NoWord(at)
    return " ".join([meaning_of[word] for word in words])
