"""The numbers that refusals are answered with."""

NO_BYTE = -1
OUT_OF_RANGE = -3
NOT_LET = -4
NOT_THERE = -5
NOT_KNOWN = -6
NOT_FITTING = -7
CONTRADICTS = -8
FULL = -9
FAULT_BASE = -1000
LINE_BASE = -100000
