"""The limits that the package keeps to."""

MOST_LISTED = 300
MOST_BOXES = 12
MOST_SIZE = 1000000000
