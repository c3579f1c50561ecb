"""The refusals: each stands under HangError, none under another."""


class HangError(ValueError):
    pass


class NoMobile(HangError):
    pass


class NoHall(HangError):
    pass


class NoWeights(HangError):
    pass


class NoWay(HangError):
    pass


class NoNumber(HangError):
    pass


class Never(HangError):
    pass


class TooLong(HangError):
    pass


class TooDeep(HangError):
    pass


class NoText(HangError):
    pass


class Nothing(HangError):
    pass
