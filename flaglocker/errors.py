"""The refusals: each one stands right under TowerError, and under no other."""


class TowerError(ValueError):
    pass


class NoHoist(TowerError):
    pass


class Short(TowerError):
    def __init__(self, flag):
        TowerError.__init__(self, flag)
        self.flag = flag


class Lack(TowerError):
    # Copies, so that what is later done to the lists handed in does not reach the refusal.
    def __init__(self, wants, flags):
        TowerError.__init__(self, list(wants), list(flags))
        self.wants = list(wants)
        self.flags = list(flags)


class NoBook(TowerError):
    def __init__(self, at):
        TowerError.__init__(self, at)
        self.at = at


class NoCut(TowerError):
    def __init__(self, terms):
        TowerError.__init__(self, terms)
        self.terms = terms


class NoText(TowerError):
    pass


class NoWord(TowerError):
    def __init__(self, at):
        TowerError.__init__(self, at)
        self.at = at


class NoHalyard(TowerError):
    pass


class NoFlag(TowerError):
    pass


class NoDeed(TowerError):
    pass


class NoRow(TowerError):
    pass
