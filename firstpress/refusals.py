"""The numbers that a refused call answers."""

OUT_OF_RANGE = -1
FALLS_BACK = -3
NOT_THERE = -4
ALIKE = -5
NO_DELAY = -6
FULL = -7
NO_HISTORY = -8
WOKEN = -11
