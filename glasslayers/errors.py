"""The refusals: GlassError is any of them, each other class is one of them."""


class GlassError(ValueError):
    pass


class NoWay(GlassError):
    pass


class Missing(GlassError):
    pass


class NotFolder(GlassError):
    pass


class NoPlace(GlassError):
    pass


class Astray(GlassError):
    pass


class IsFolder(GlassError):
    pass


class IsThere(GlassError):
    pass


class NotEmpty(GlassError):
    pass


class InItself(GlassError):
    pass


class TooDeep(GlassError):
    pass


class Crowded(GlassError):
    pass


class NoPane(GlassError):
    pass


class NoRow(GlassError):
    pass
