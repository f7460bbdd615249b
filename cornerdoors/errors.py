"""The refusals of the program, one class for each."""


class DoorError(ValueError):
    pass


class BadNet(DoorError):
    pass


class NoPlace(DoorError):
    pass


class NoTriangle(DoorError):
    pass


class NoFloor(DoorError):
    pass


class NoEnd(DoorError):
    pass


class NotRuled(DoorError):
    pass
