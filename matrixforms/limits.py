"""The limits of formulas and of the questions about them."""

MOST_SIDE = 16
MOST_WEIGHT = 1000
MOST_LEVELS = 60
MOST_POWER = 9
MOST_RANK = 24
MOST_TRACE_RANK = 16
