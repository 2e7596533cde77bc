"""The numbers that a refused call answers."""

OUT_OF_RANGE = -1
NOT_AS_TOLD = -2
FALLS_BACK = -3
NOT_THERE = -4
ALIKE = -5
NO_DELAY = -6
FULL = -7
NO_HISTORY = -8
# One number, of first, would and ruled, and of needed.
NO_PRESS = -9
NOT_BEFORE = -9
WOULD_BREAK = -10
WOKEN = -11
