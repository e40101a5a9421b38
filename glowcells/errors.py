"""The refusals: whatever the program refuses, it refuses with a class of its own."""


class GlowError(ValueError):
    pass


class NoFloor(GlowError):
    pass


class NoLoss(GlowError):
    pass


class NoPlace(GlowError):
    pass


class NoText(GlowError):
    def __init__(self, line):
        GlowError.__init__(self, line)
        self.line = line


class NoStrength(GlowError):
    pass


class Walled(GlowError):
    pass


class Taken(GlowError):
    pass


class NoLights(GlowError):
    pass


class NoDeed(GlowError):
    pass


class NoLamp(GlowError):
    pass


class Stopped(GlowError):
    def __init__(self, at, why):
        GlowError.__init__(self, at, why)
        self.at = at
        self.why = why


class NoColour(GlowError):
    pass


class NoWay(GlowError):
    pass


class NoCut(GlowError):
    pass
