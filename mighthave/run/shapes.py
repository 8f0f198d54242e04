"""The forms of whole numbers and rows: asked of anything, never an error."""


def is_whole(thing, low, high):
    """Whether it is a whole number from low to high; a truth is none."""
    return type(thing) is int and low <= thing <= high


def is_row(thing, low, high):
    """Whether it is a row of low to high things, whatever they are."""
    return type(thing) is tuple and low <= len(thing) <= high
