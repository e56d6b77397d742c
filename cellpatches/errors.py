"""The refusals: one class for each, all under PatchError and none under another."""


class PatchError(ValueError):
    pass


class NoBoard(PatchError):
    pass


class NoWays(PatchError):
    pass


class NoCell(PatchError):
    pass


class NoLetter(PatchError):
    pass


class NoNumber(PatchError):
    pass


class NoFit(PatchError):
    pass


class Nothing(PatchError):
    pass


class NoText(PatchError):
    pass
