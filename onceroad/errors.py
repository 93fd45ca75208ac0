"""The refusals: one class for each, straight under OnceError."""


class OnceError(ValueError):
    def __init__(self, text):
        ValueError.__init__(self, text)


class NoName(OnceError):
    def __init__(self, found):
        OnceError.__init__(self, "no name, or no list of names")
        self.found = found


class Twice(OnceError):
    def __init__(self, name):
        OnceError.__init__(self, "a name that is there already")
        self.name = name


class NoPlace(OnceError):
    def __init__(self, found):
        OnceError.__init__(self, "no place of the web")
        self.found = found


class NoTie(OnceError):
    def __init__(self, found):
        OnceError.__init__(self, "no tie that could be meant here")
        self.found = found


class TooMany(OnceError):
    def __init__(self, many):
        OnceError.__init__(self, "more than there may be")
        self.many = many


class NoText(OnceError):
    def __init__(self, at):
        OnceError.__init__(self, "no text that can be read")
        self.at = at


class NoPairs(OnceError):
    def __init__(self, found):
        OnceError.__init__(self, "no pairs of the web")
        self.found = found


class NoRow(OnceError):
    def __init__(self, found):
        OnceError.__init__(self, "no row that can be turned")
        self.found = found


class Odd(OnceError):
    def __init__(self, ring):
        OnceError.__init__(self, "a web with an odd ring")
        self.ring = ring


class NoMove(OnceError):
    def __init__(self, found):
        OnceError.__init__(self, "no move")
        self.found = found


class NoBack(OnceError):
    def __init__(self):
        OnceError.__init__(self, "no move or deed to take back")


class NoBar(OnceError):
    def __init__(self, found):
        OnceError.__init__(self, "no bar of the web")
        self.found = found


class NoPlayer(OnceError):
    def __init__(self, found):
        OnceError.__init__(self, "no player")
        self.found = found


class NoNumbers(OnceError):
    def __init__(self, found):
        OnceError.__init__(self, "no number, or no numbers, as asked for")
        self.found = found


class NoLine(OnceError):
    def __init__(self, found):
        OnceError.__init__(self, "no line that can be answered")
        self.found = found
