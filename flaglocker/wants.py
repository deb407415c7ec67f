"""Wants: the places of words, which flags may hang there, and the hoists that come of flags for them."""

from flaglocker.flags import SUBSTITUTES


def choices_at(word, place):
    letter = word[place - 1]
    above = [sign for sign in SUBSTITUTES if int(sign) < place and word[int(sign) - 1] == letter]
    return [letter] + above


def wants_of(words):
    wants = []
    for number, word in enumerate(words):
        wants.extend([(number, place) for place in range(1, len(word) + 1)])
    return wants


def hoists_of(words, flags):
    hoists = []
    start = 0
    for word in words:
        end = start + len(word)
        hoists.append(list(flags[start:end]))
        start = end
    return hoists
