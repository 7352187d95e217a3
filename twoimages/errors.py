"""What the program refuses, and how it tells of it."""


class ImageError(ValueError):
    """Any refusal."""


class Stopped(ImageError):
    """Power went in a write, or is still away."""


class BadSize(ImageError):
    """A memory can't have so many cells."""


class BadPlace(ImageError):
    """There is no such cell."""


class BadWorth(ImageError):
    """A cell can't hold this."""


class BadCut(ImageError):
    """Power can't go like this."""


class BadKeys(ImageError):
    """A machine can't have these keys, or so many tries."""


class BadPicture(ImageError):
    """A picture can't be; word tells which part of it."""

    def __init__(self, word):
        super().__init__(f"no picture has such a part: {word}")
        self.word = word


class BadManifest(ImageError):
    """A manifest can't be; word tells which part of it."""

    def __init__(self, word):
        super().__init__(f"no manifest has such a part: {word}")
        self.word = word


class BadStores(ImageError):
    """Stores can't be; number tells which is the first that can't."""

    def __init__(self, number):
        super().__init__(f"this store can't be: {number}")
        self.number = number


class BadDeed(ImageError):
    """A plan can't be; number tells which deed is the first that can't."""

    def __init__(self, number):
        super().__init__(f"this deed can't be: {number}")
        self.number = number


class BadText(ImageError):
    """A text is no manifest's; place tells which word can't stand there."""

    def __init__(self, place):
        super().__init__(f"this word can't stand here: {place}")
        self.place = place
