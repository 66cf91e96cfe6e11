"""The refusals of the program, each straight under TruceError."""

# The words of an error are fixed texts: a field may be anything that was handed in, also what can't be shown.


class TruceError(ValueError):
    pass


class NoFact(TruceError):
    def __init__(self, name):
        TruceError.__init__(self, "a name of the rule has no fact")
        self.name = name


class NoText(TruceError):
    pass


class NoJoin(TruceError):
    def __init__(self, name):
        TruceError.__init__(self, "the clauses can't be joined over this name")
        self.name = name


class NoPeace(TruceError):
    def __init__(self, part):
        TruceError.__init__(self, "the set is no such peace")
        self.part = part


class NoClash(TruceError):
    def __init__(self, part):
        TruceError.__init__(self, "the set is no such clash")
        self.part = part


class BadHeap(TruceError):
    def __init__(self, place):
        TruceError.__init__(self, "the thing is no heap")
        self.place = place


class NoTruce(TruceError):
    pass


class OtherLabels(TruceError):
    pass


class BadLabel(TruceError):
    pass


class Taken(TruceError):
    def __init__(self, label):
        TruceError.__init__(self, "a saying with this label is there")
        self.label = label


class BadRule(TruceError):
    pass


class TooMany(TruceError):
    def __init__(self, most):
        TruceError.__init__(self, "there would be too many")
        self.most = most


class NoLabel(TruceError):
    def __init__(self, label):
        TruceError.__init__(self, "no such saying has this label")
        self.label = label


class NoRow(TruceError):
    pass
