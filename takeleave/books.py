"""Books of told words."""


def rows_told(book):
    """A dict of the row of each told word of a book, or of none."""
    return {name: row for name, told, row in book or ()}
