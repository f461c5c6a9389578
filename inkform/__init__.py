"""Formulas drawn as signs on a floor, and read from the drawing alone."""
