"""Choosing: which of some words are kept, where not all of them can hang together."""

from flaglocker.hanging import can_hang, lack_of


def words_at(words, numbers):
    return [words[number] for number in numbers]


def by_rank(locker, words):
    kept = []
    for number in range(len(words)):
        if can_hang(locker, words_at(words, kept + [number])):
            kept = kept + [number]
    return kept


# The numbers rise, so the lists come in the order in which Python compares them.
def rising_lists(numbers, many):
    if many == 0:
        return [[]]
    lists = []
    for at, number in enumerate(numbers):
        behind = rising_lists(numbers[at + 1:], many - 1)
        lists.extend([[number] + rest for rest in behind])
    return lists


def first_hanging(locker, words, many):
    for numbers in rising_lists(list(range(len(words))), many):
        if can_hang(locker, words_at(words, numbers)):
            return numbers
    return None


def paper_for(locker, words, numbers):
    lack = lack_of(locker, words_at(words, numbers))
    wants = [(numbers[want[0]], want[1]) for want in lack[0]]
    return (numbers, wants, lack[1])


def most_kept(locker, words):
    # Downward, so that the first number of words that is found is the greatest; the list of none can always hang.
    many = len(words)
    kept = first_hanging(locker, words, many)
    while kept is None:
        many = many - 1
        kept = first_hanging(locker, words, many)
    larger = rising_lists(list(range(len(words))), many + 1)
    return (kept, [paper_for(locker, words, numbers) for numbers in larger])
