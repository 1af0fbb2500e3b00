"""The numbers that stand for refusals, in the order in which they are looked at."""

BAD_NUMBER = -1
BAD_FORM = -2
TOO_MANY_LINES = -7
BAD_USE = -3
NO_POINT = -4
FAULTY_RUN = -5
TOO_HEAVY = -6
