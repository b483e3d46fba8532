"""Array programs as texts: read from right to left, faults placed, printed in one form."""
