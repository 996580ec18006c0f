"""The errors that the program raises."""


class RisingError(ValueError):
    """What all refusals of this program are."""


class BadBook(RisingError):
    """A book is wrong at a place."""

    def __init__(self, place):
        RisingError.__init__(self, f"the book is wrong at {place}")
        self.place = place


class BadSaying(RisingError):
    """A saying is wrong at a place."""

    def __init__(self, place):
        RisingError.__init__(self, f"the saying is wrong at {place}")
        self.place = place


class BadTable(RisingError):
    """A table is wrong at a place."""

    def __init__(self, place):
        RisingError.__init__(self, f"the table is wrong at {place}")
        self.place = place


class BadTerms(RisingError):
    """Terms are wrong at a place."""

    def __init__(self, place):
        RisingError.__init__(self, f"the terms are wrong at {place}")
        self.place = place


class BadPaper(RisingError):
    """A paper is wrong at a place."""

    def __init__(self, place):
        RisingError.__init__(self, f"the paper is wrong at {place}")
        self.place = place


class BadDeed(RisingError):
    """A deed or a state is wrong at a place."""

    def __init__(self, place):
        RisingError.__init__(self, f"the deed is wrong at {place}")
        self.place = place


class BadParameter(RisingError):
    """A parameter is wrong as a whole."""

    def __init__(self, value):
        # The value may be anything, also what cannot be written out: the message leaves it out.
        RisingError.__init__(self, "a parameter is wrong")
        self.value = value


class NoRow(RisingError):
    """What is asked for does not exist."""


class TooGreat(RisingError):
    """A number is greater than the most that is let."""

    def __init__(self, most):
        RisingError.__init__(self, f"at most {most} are let")
        self.most = most
