"""Fillings of shapes, the two triangles, and sums with one letter alone."""
