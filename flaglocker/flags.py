"""The letters, the substitutes, the flags in their order, and words."""

LETTERS = "abcdefghijklmnopqrstuvw"
SUBSTITUTES = "1234"
FLAGS = "abcdefghijklmnopqrstuvw1234"

# A word and the hoist that says it are of one length, so one bound holds for both.
MOST_PLACES = 7


def rank_of(letter):
    return LETTERS.index(letter)


def is_flag(text):
    # A text of none or of several signs can stand within FLAGS, too, so its length is asked first.
    return len(text) == 1 and text in FLAGS


def is_word(text):
    if len(text) < 1 or len(text) > MOST_PLACES:
        return False
    return all([sign in LETTERS for sign in text])
