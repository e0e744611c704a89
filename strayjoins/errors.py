"""The errors of the package. Each keeps, as attributes, the values that it is made with."""


class JoinError(ValueError):
    """The base class of the errors about values that cannot be used."""


class InvalidFrame(JoinError):
    def __init__(self, reason):
        super().__init__(f"invalid frame: {reason!r}")
        self.reason = reason


class InvalidWord(JoinError):
    def __init__(self, name):
        super().__init__(f"invalid word: {name!r}")
        self.name = name


class InvalidBoard(JoinError):
    def __init__(self, reason):
        super().__init__(f"invalid board: {reason!r}")
        self.reason = reason


class InvalidAnswer(JoinError):
    def __init__(self, index, name):
        super().__init__(f"invalid answer: word {index!r}, leg {name!r}")
        self.index = index
        self.name = name


class NoBoard(JoinError):
    def __init__(self, index, name):
        super().__init__(f"no board gives these answers: word {index!r}, leg {name!r}")
        self.index = index
        self.name = name


class InvalidChain(JoinError):
    def __init__(self, reason):
        super().__init__(f"invalid chain: {reason!r}")
        self.reason = reason


class InvalidHurt(JoinError):
    def __init__(self, reason):
        super().__init__(f"invalid hurt link: {reason!r}")
        self.reason = reason


class InvalidScan(JoinError):
    def __init__(self, index):
        super().__init__(f"invalid deed: {index!r}")
        self.index = index


class InvalidText(JoinError):
    def __init__(self, line, word):
        super().__init__(f"invalid text: line {line!r}, word {word!r}")
        self.line = line
        self.word = word


class InvalidCommand(JoinError):
    def __init__(self, word):
        super().__init__(f"invalid command: word {word!r}")
        self.word = word


class Settled(JoinError):
    """No further word is needed."""


class NothingToUndo(JoinError):
    """There are not so many answers to take back."""


class MissingError(LookupError):
    """The base class of the errors about what is not there."""


class NoLeg(MissingError):
    def __init__(self, name):
        super().__init__(f"no such leg or rail: {name!r}")
        self.name = name


class NoWord(MissingError):
    def __init__(self, index):
        super().__init__(f"no such word: {index!r}")
        self.index = index


class TooMany(OverflowError):
    def __init__(self, most):
        super().__init__(f"more than {most!r}")
        self.most = most
