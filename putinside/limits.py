"""The limits that the package keeps to."""

MOST_LISTED = 300
