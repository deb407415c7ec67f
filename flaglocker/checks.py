"""Checks: checked words, the letter that makes a word a checked one, and a hidden letter."""

from flaglocker.flags import LETTERS, is_word, rank_of


def is_divided(letters):
    weighed = [place * rank_of(letter) for place, letter in enumerate(letters, start=1)]
    return sum(weighed) % len(LETTERS) == 0


def is_checked(word):
    return is_word(word) and len(word) > 1 and is_divided(word)


# The number of letters is a prime greater than any place, so at each place just one letter does.
def hidden_letter(letters):
    at = letters.index(None)
    ahead = letters[:at]
    behind = letters[at + 1:]
    return [letter for letter in LETTERS if is_divided(ahead + [letter] + behind)][0]


def check_of(word):
    return hidden_letter(list(word) + [None])


def with_check(word):
    return word + check_of(word)
