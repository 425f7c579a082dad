"""Fourswaps: tables with told joint sums, joined by swaps of four cells."""
