"""The refusals: each stands right under GlanceError, none under another one."""


class GlanceError(ValueError):
    pass


class TooMany(GlanceError):
    pass


class NoAttempt(GlanceError):
    pass


class NoStep(GlanceError):
    pass


class NoRow(GlanceError):
    pass


class NoText(GlanceError):
    def __init__(self, at):
        GlanceError.__init__(self, f"no dealing can be read on at word {at}")
        self.at = at
