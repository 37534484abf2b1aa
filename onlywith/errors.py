"""The errors of the package: each keeps what it was made with, just as it was passed."""


class WithError(ValueError):
    """What all errors of this package have in common."""


class Unfit(WithError):
    """A value does not have the form that is asked for."""


class BadText(WithError):
    """A value is not the text of a wish; place is how far it could still become one."""

    def __init__(self, place):
        self.place = place


class BadStore(WithError):
    """A value is not a store; error is what store_error tells of it."""

    def __init__(self, error):
        self.error = error


class BadChange(WithError):
    """A value is not a change of a store; error is what change_error tells of it."""

    def __init__(self, error):
        self.error = error


class BadWish(WithError):
    """A value is not a wish; error is what wish_error tells of it."""

    def __init__(self, error):
        self.error = error


class NoVersion(WithError):
    """There is no version of the number given."""

    def __init__(self, given):
        self.given = given


class NoUnifier(WithError):
    """The equation at place makes two unlike values alike."""

    def __init__(self, place):
        self.place = place


class TooMany(WithError):
    """There is more of something than limit lets by."""

    def __init__(self, limit):
        self.limit = limit


class HasGroup(WithError):
    """There is no paper of a no, as group can be done."""

    def __init__(self, group):
        self.group = group


class NotTame(WithError):
    """A pool is not tame; error is what tame_error tells of it."""

    def __init__(self, error):
        self.error = error


class Refused(WithError):
    """A dealing or a book does not close; error tells why."""

    def __init__(self, error):
        self.error = error


class NotWaiting(WithError):
    """No wish of the number given waits."""

    def __init__(self, given):
        self.given = given


class BadRecord(WithError):
    """A value is not a record, a letter or a line of an entry."""


class BadLog(WithError):
    """A line of a log is not the line of an entry; line is its place."""

    def __init__(self, line):
        self.line = line


class BadPicture(WithError):
    """A text is not a picture; place is that of the first line that is wrong."""

    def __init__(self, place):
        self.place = place


class Early(WithError):
    """A letter came ahead of others of its door; count is how many were heard."""

    def __init__(self, count):
        self.count = count
