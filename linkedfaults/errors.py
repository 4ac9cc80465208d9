"""The errors: all of them stand directly under FaultError and hold what they were made with."""

from linkedfaults.kinds import copied


class FaultError(ValueError):
    """What is common to all errors of this package."""


class BadFault(FaultError):
    """What is told of a fault is wrong: its name or its share."""

    def __init__(self, name):
        FaultError.__init__(self, "no fault can be told so")
        self.name = copied(name)


class BadLink(FaultError):
    """What stands at this place of a list of links is no link."""

    def __init__(self, index):
        FaultError.__init__(self, "no pair of unlike faults")
        self.index = copied(index)


class NoFault(FaultError):
    """What is told is none of the faults."""

    def __init__(self, name):
        FaultError.__init__(self, "no such fault")
        self.name = copied(name)


class BadShare(FaultError):
    """What is told is no share that is right here."""

    def __init__(self, share):
        FaultError.__init__(self, "no share that is right here")
        self.share = copied(share)


class SameFault(FaultError):
    """Two unlike faults are asked for, but one is told twice."""

    def __init__(self, name):
        FaultError.__init__(self, "the same fault twice")
        self.name = copied(name)


class BadNumber(FaultError):
    """What is told is no number that is right here."""

    def __init__(self, number):
        FaultError.__init__(self, "no number that is right here")
        self.number = copied(number)


class Clash(FaultError):
    """Two systems or worlds have this fault in common."""

    def __init__(self, name):
        FaultError.__init__(self, "a fault that both have")
        self.name = copied(name)


class BadSum(FaultError):
    """Shares don't add up as they should."""


class BadName(FaultError):
    """What is told is no name that is right here."""

    def __init__(self, name):
        FaultError.__init__(self, "no name that is right here")
        self.name = copied(name)


class BadOutcome(FaultError):
    """What is told is no set of the names of a world, or one that stood before."""

    def __init__(self, outcome):
        FaultError.__init__(self, "no set of the names")
        self.outcome = copied(outcome)


class Never(FaultError):
    """The cases that are asked for never come about."""


class UnlikeFaults(FaultError):
    """A system and a world don't have the same faults."""


class Unsafe(FaultError):
    """These faults are not safe."""

    def __init__(self, some):
        FaultError.__init__(self, "faults that are not safe")
        self.some = copied(some)


class NoPaper(FaultError):
    """The weights are none that prove anything."""


class BadCount(FaultError):
    """What is told is no count that is right here."""

    def __init__(self, count):
        FaultError.__init__(self, "no count that is right here")
        self.count = copied(count)


class BadPlace(FaultError):
    """What is told is no place in a row."""

    def __init__(self, place):
        FaultError.__init__(self, "no place in a row")
        self.place = copied(place)


class BadCoin(FaultError):
    """What is told of a coin is wrong: its name or its sides."""

    def __init__(self, name):
        FaultError.__init__(self, "no coin can be told so")
        self.name = copied(name)


class BadSetting(FaultError):
    """What is told is no setting of the coins."""


class BadOrder(FaultError):
    """What is told is no order of all faults."""


class NoEnd(FaultError):
    """Throwing anew may go on for ever."""


class NoWatch(FaultError):
    """Nothing is watched under this word."""

    def __init__(self, word):
        FaultError.__init__(self, "nothing is watched under this word")
        self.word = copied(word)


class NoDeed(FaultError):
    """There is no deed to take back or to do again."""


class BadText(FaultError):
    """A text is none of a system or a world, as this line shows."""

    def __init__(self, line):
        FaultError.__init__(self, "no text of a system or a world")
        self.line = copied(line)
