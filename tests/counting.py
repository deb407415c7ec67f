"""What the points say of hanging, halyards, checks and cuts, counted anew for the tests, without the package."""

import itertools
import string
from collections import Counter

LETTERS = "abcdefghijklmnopqrstuvw"
FLAGS = "abcdefghijklmnopqrstuvw1234"


def choices_for(word):
    """For each place of a word, from 1 on, the list of its choices."""
    choices = []
    for place, letter in enumerate(word, start=1):
        above = [n for n in (1, 2, 3, 4) if n < place and word[n - 1] == letter]
        choices.append([letter] + [str(n) for n in above])
    return choices


def places_of(words):
    return [(number, place) for number, word in enumerate(words) for place in range(1, len(word) + 1)]


def needs_of(words):
    """All that the words can need, each as a dict of flags and numbers, found by going through all choices."""
    needs = {()}
    for choices in [some for word in words for some in choices_for(word)]:
        # Two ways that need the same so far go on alike, so one of them is enough.
        needs = {tuple(sorted(need + (flag,))) for need in needs for flag in choices}
    return [Counter(flags) for flags in sorted(needs)]


def is_in(need, locker):
    return all(locker.get(flag, 0) >= many for flag, many in need.items())


def hangs(locker, words):
    return any(is_in(need, locker) for need in needs_of(words))


def place_read(flags, place):
    """What the document says of a place, followed from below; None where it leads to nothing."""
    flag = flags[place - 1]
    if flag not in "1234":
        return flag
    return place_read(flags, int(flag)) if int(flag) < place else None


def word_of(hoist):
    return "".join(place_read(hoist, place) for place in range(1, len(hoist) + 1))


def reads_to(flags, word):
    """A hoist reads to a word just where at each place hangs one of its choices."""
    if not 1 <= len(word) <= 7 or len(flags) != len(word):
        return False
    return all(flag in choices for flag, choices in zip(flags, choices_for(word), strict=True))


def hung_by_count(locker, words, hoists):
    if len(hoists) != len(words):
        return False
    if not all(reads_to(hoist, word) for hoist, word in zip(hoists, words, strict=True)):
        return False
    return is_in(Counter(flag for hoist in hoists for flag in hoist), locker)


def lack_by_count(locker, words, wants, flags):
    if len(set(wants)) != len(wants) or len(set(flags)) != len(flags):
        return False
    if any(want not in places_of(words) for want in wants) or not set(flags) <= set(FLAGS):
        return False
    for number, place in wants:
        if not set(choices_for(words[number])[place - 1]) <= set(flags):
            return False
    return len(wants) > sum(locker.get(flag, 0) for flag in flags)


def lockers_of(most):
    """All lockers with 0 up to the number told of each flag told."""
    for numbers in itertools.product(*[range(many + 1) for many in most.values()]):
        yield dict(zip(most, numbers, strict=True))


def words_of(letters, longest):
    for many in range(1, longest + 1):
        for signs in itertools.product(letters, repeat=many):
            yield "".join(signs)


def checked_by_count(word):
    total = 0
    for place in range(1, len(word) + 1):
        total += place * LETTERS.index(word[place - 1])
    return len(word) >= 2 and total in range(0, 10000, 23)


def checked_from(word):
    """The checked word, with its check letter found by trying all of them."""
    return [word + letter for letter in LETTERS if checked_by_count(word + letter)][0]


def sets_of_others(halyards, number):
    """All sets of other halyards with hoists, smaller ones first, then as Python compares lists."""
    others = [other for other in range(len(halyards)) if other != number and halyards[other] is not None]
    lists = [list(some) for many in range(len(others) + 1) for some in itertools.combinations(others, many)]
    return sorted(lists, key=lambda some: (len(some), some))


def flags_in_all(locker, halyards):
    many = Counter(flag for hoist in halyards if hoist is not None for flag in hoist)
    many.update(locker)
    return {flag: many[flag] for flag in FLAGS if many[flag] > 0}


def flags_due(locker, halyards, deed):
    """As many flags in all as there are to be behind a deed that is done."""
    many = Counter(flags_in_all(locker, halyards))
    many.update({"lose": {deed[1]: -1}, "find": {deed[1]: 1}}.get(deed[0], {}))
    return {flag: many[flag] for flag in FLAGS if many[flag] > 0}


def tried(locker, halyards, number, word, lowered):
    """The locker and the words that point 19 names for a set."""
    down = [halyards[other] for other in [number] + lowered]
    words = [word] + [word_of(halyards[other]) for other in lowered]
    return flags_in_all(locker, down), words


def sought(locker, halyards, number, word):
    """The least set that does, sought through all sets and all choices; None where there is none."""
    for lowered in sets_of_others(halyards, number):
        if hangs(*tried(locker, halyards, number, word, lowered)):
            return lowered
    return None


def hoist_by_chance(chance, word):
    return [chance.choice(choices) for choices in choices_for(word)]


def hidden_in(chance, hoist):
    """A sight of the hoist, with some places hidden by chance."""
    return [None if chance.randrange(3) == 0 else flag for flag in hoist]


def book_of(many):
    """So many unlike words of one to six letters, with unlike meanings of one to five terms."""
    return [(word_at(at), " ".join([meant_at(at)] + ["more"] * (at % 5))) for at in range(many)]


def word_at(at):
    return (LETTERS[at % 23] + LETTERS[at // 23] + "wvut")[:max(2, at % 6 + 1)]


def meant_at(at):
    return (string.ascii_lowercase[at % 26] + string.ascii_lowercase[at // 26] + "abcdefgh")[:at % 9 + 2]


def all_cuts(book, terms):
    """All lists of numbers whose meanings, one behind the other, are the terms."""
    if not terms:
        return [[]]
    cuts = []
    for number, (word, meaning) in enumerate(book):
        part = meaning.split(" ")
        if part == terms[:len(part)]:
            cuts += [[number] + rest for rest in all_cuts(book, terms[len(part):])]
    return cuts


def best_cut(book, cuts):
    """Of the shortest the one with the longer meaning at the first place where two differ."""
    fewest = min(len(cut) for cut in cuts)
    shortest = [cut for cut in cuts if len(cut) == fewest]
    best = shortest[0]
    for cut in shortest[1:]:
        at = [one == other for one, other in zip(cut, best)].index(False)
        if len(book[cut[at]][1].split(" ")) > len(book[best[at]][1].split(" ")):
            best = cut
    return best


def check_lack(case, locker, words, wants, flags):
    """Point 13, sentence by sentence."""
    told = (locker, words, wants, flags)
    case.assertIs(type(wants), list, told)
    case.assertIs(type(flags), list, told)
    for want in wants:
        case.assertIs(type(want), tuple, told)
        case.assertEqual([type(part) for part in want], [int, int], told)
        case.assertIn(want, places_of(words), told)
    case.assertEqual(wants, [want for want in places_of(words) if want in wants], told)
    case.assertEqual(flags, [flag for flag in FLAGS if flag in flags], told)
    for number, place in wants:
        for choice in choices_for(words[number])[place - 1]:
            case.assertIn(choice, flags, told)
    case.assertGreater(len(wants), sum(locker.get(flag, 0) for flag in flags), told)
