"""What the program raises where it refuses what is handed in."""


class MomentError(ValueError):
    """What was handed in has not the form asked for."""


class NoRun(MomentError):
    """No run."""


class NoMoment(MomentError):
    """No moment of the run."""


class NoName(MomentError):
    """No name."""


class NoWay(MomentError):
    """No way of the run."""


class NoTest(MomentError):
    """No test."""


class NoSaying(MomentError):
    """No saying of the run."""


class NoSlice(MomentError):
    """No slice of the run."""


class NoMoments(MomentError):
    """No row of moments as it is asked for."""


class NoCounts(MomentError):
    """No rising row of counts of the hand."""


class NoSayings(MomentError):
    """No row of one to six sayings of the run."""


class NoSum(MomentError):
    """No sum of the run's hands."""


class NoTests(MomentError):
    """No tests of the run's hands."""


class Unfit(MomentError):
    """No deed that fits where it is put."""


class Heard(MomentError):
    """A deed that was heard before."""


class NoBack(MomentError):
    """No deed that could be undone."""


class NoText(MomentError):
    """No text of what is to be read."""


class NoLine(MomentError):
    """No row that a desk takes."""


class NoHand(IndexError):
    """No number of a hand of the run."""

    def __init__(self, hand):
        IndexError.__init__(self, "no such hand")
        self.hand = hand


class NoPlace(KeyError):
    """No (hand, place) of a deed of the run."""

    def __init__(self, deed):
        KeyError.__init__(self, "no such deed")
        self.deed = deed


class NoNumber(LookupError):
    """No number as it is asked for."""

    def __init__(self, number):
        LookupError.__init__(self, "no such number")
        self.number = number


class TooWide(OverflowError):
    """More moments than the bound lets by."""

    def __init__(self, most):
        OverflowError.__init__(self, "more moments than most")
        self.most = most


class NoSteps(ArithmeticError):
    """A deed that keeps a sum from going up and down by steps of one."""

    def __init__(self, deed):
        ArithmeticError.__init__(self, "no steps of one by this deed")
        self.deed = deed


class Unknown(KeyError):
    """A name without a saying."""

    def __init__(self, name):
        KeyError.__init__(self, "no saying of this name")
        self.name = name
