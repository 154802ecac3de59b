"""Counters in a row, between which work is moved and nobody outside can tell."""
