"""The refusals, one class for each, all under ShareError."""


class ShareError(ValueError):
    pass


class NoThings(ShareError):
    pass


class NoSharing(ShareError):
    pass


class NoShares(ShareError):
    pass


class Unlike(ShareError):
    pass


class NotFiner(ShareError):
    pass


class NoThing(ShareError):
    pass


class NoNumber(ShareError):
    pass


class NoWay(ShareError):
    pass


class NotRead(ShareError):
    pass
