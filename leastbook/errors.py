"""The refusals: one class for each, all of them straight beneath BookError."""


class BookError(ValueError):
    pass


class NoStyle(BookError):
    pass


class TooWide(BookError):
    def __init__(self, block):
        BookError.__init__(self, f"block {block}: a text is wider than the lines")
        self.block = block


class TooHigh(BookError):
    def __init__(self, block):
        BookError.__init__(self, f"block {block}: something is higher than the pages")
        self.block = block


class Twice(BookError):
    def __init__(self, block):
        BookError.__init__(self, f"block {block}: a label that is there already")
        self.block = block


class Loose(BookError):
    def __init__(self, block):
        BookError.__init__(self, f"block {block}: a mark or key with no word behind it")
        self.block = block


class NoLabel(BookError):
    def __init__(self, block):
        BookError.__init__(self, f"block {block}: a reference to a label that nothing has")
        self.block = block


class NoRow(BookError):
    def __init__(self, row):
        BookError.__init__(self, f"row {row}: not a row of a book")
        self.row = row
