"""The marks of doubt or rank that stand before an epithet."""

# Each stands at the place that is its number.
MARKS = ("", "cf. ", "aff. ", "x ", "subsp. ", "var. ", "f. ")
# Those that are written at all: either epithet may also do without.
FIRST_MARKS = (1, 2, 3)
SECOND_MARKS = (1, 2, 4, 5, 6)
