"""The tower: a book, a locker and halyards, and the deeds that change what hangs."""

from flaglocker.checks import is_checked, with_check
from flaglocker.cutting import cut_text
from flaglocker.errors import NoDeed, NoFlag, NoHalyard, NoWord
from flaglocker.flags import is_flag
from flaglocker.halyards import flags_on, hauled
from flaglocker.hanging import hang_all
from flaglocker.hoists import read_of
from flaglocker.lockers import MOST_OF_A_FLAG, plain_locker, put_in, taken

# How many things each deed has, its first word among them.
THINGS_IN = {"haul": 3, "lower": 2, "lose": 2, "find": 2, "say": 2}


def look_for_halyard(halyards, number):
    if number < 0 or number >= len(halyards):
        raise NoHalyard("there is no such halyard")


def look_for_flag(flag):
    if not is_flag(flag):
        raise NoFlag("this is no flag")


def all_flags_on(halyards):
    return flags_on(halyards, list(range(len(halyards))))


# Each deed tells the halyards and the locker behind it; those handed in stay, so that a refusal leaves all as it was.
def behind_haul(halyards, locker, number, word):
    look_for_halyard(halyards, number)
    if not is_checked(word):
        raise NoWord(0)
    told = hauled(locker, halyards, number, word)
    return (told[1], told[2])


def behind_lower(halyards, locker, number):
    look_for_halyard(halyards, number)
    behind = list(halyards)
    behind[number] = None
    return (behind, put_in(locker, flags_on(halyards, [number])))


def behind_lose(halyards, locker, flag):
    look_for_flag(flag)
    return (halyards, taken(locker, [flag]))


def behind_find(halyards, locker, flag):
    look_for_flag(flag)
    if locker.get(flag, 0) + all_flags_on(halyards).count(flag) >= MOST_OF_A_FLAG:
        raise NoFlag("there are too many of this flag for one more")
    return (halyards, put_in(locker, [flag]))


def behind_say(book, halyards, locker, text):
    words = [with_check(book[number][0]) for number in cut_text(book, text)]
    if len(words) > len(halyards):
        raise NoHalyard("there are fewer halyards than words")
    more = put_in(locker, all_flags_on(halyards))
    hoists = hang_all(more, words)
    bare = [None] * (len(halyards) - len(hoists))
    return (hoists + bare, taken(more, all_flags_on(hoists)))


def behind_deed(book, halyards, locker, deed):
    if deed[0] == "haul":
        return behind_haul(halyards, locker, deed[1], deed[2])
    if deed[0] == "lower":
        return behind_lower(halyards, locker, deed[1])
    if deed[0] == "lose":
        return behind_lose(halyards, locker, deed[1])
    if deed[0] == "find":
        return behind_find(halyards, locker, deed[1])
    return behind_say(book, halyards, locker, deed[1])


class Tower:
    def __init__(self, book, locker, many):
        self.book = list(book)
        self.many = many
        self.stock_at_first = plain_locker(locker)
        self.stock = plain_locker(locker)
        self.hung = [None] * many
        self.deeds = []

    def do(self, deed):
        if deed == () or THINGS_IN.get(deed[0]) != len(deed):
            raise NoDeed("this is no deed")
        behind = behind_deed(self.book, self.hung, self.stock, deed)
        self.hung = behind[0]
        self.stock = behind[1]
        self.deeds.append(deed)

    def halyards(self):
        return [None if hoist is None else list(hoist) for hoist in self.hung]

    def locker(self):
        return plain_locker(self.stock)

    def log(self):
        return list(self.deeds)

    def read(self):
        spoken = [with_check(word) for word, meaning in self.book]
        words = [None if hoist is None else read_of(hoist) for hoist in self.hung]
        return [spoken.index(word) if word in spoken else None for word in words]

    # The very same hoists come, since what a deed does hangs on nothing but the halyards and the locker ahead of it.
    def again(self):
        tower = Tower(self.book, self.stock_at_first, self.many)
        for deed in self.log():
            tower.do(deed)
        return tower
