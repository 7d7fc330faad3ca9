"""Formulas of the past, watched with a fixed number of cells."""
